import PyProof.Rows.All
import Wide.All
import OpenK.AllK
import Wide.FinOn
import Lean
import PyProof.EqAt
import PyProof.EqKinds
import PyProof.TupleCall
import KE.KIntText
import PyProof.NeKinds
import KE.KDictList
import PyProof.Rows.SetFrom
import PyProof.WalksMore
import PyProof.AttrMissHeap
import PyProof.EnumFor
import PyProof.EnumMake
import PyProof.EnumStmt
import PyProof.LayNew
import PyProof.ZipIter
import PyProof.Draws
import PyProof.Rows.StrNews
import PyProof.ReprRoads
import PyProof.ReprLen
import PyProof.StrLawsRepr
import PyProof.StrLawsTight
import PyProof.StrLawsChain
import PyProof.Rows.StrSplitAre
import PyProof.Rows.Range3
import PyProof.ListTruth
import PyProof.WalkInts
import PyProof.Rows.StrPartPair
import PyProof.Rows.StrJoin2
import PyProof.Rows.StrNews2
import PyProof.Rows.StrLawsPart
import PyProof.Rows.StrFirst
import PyProof.Rows.SortWalk
import PyProof.Rows.SortStr
import PyProof.CollectWalk
import PyProof.DictIter
import PyProof.SetKind
import PyProof.SetRoads
import PyProof.DictWalks
import PyProof.ForAny
import PyProof.MakeMany
import PyProof.FactsAll.set
import PyProof.FString5
import PyProof.FactsAll.dict
import PySem.Challenge.RW_planstore_k34_conditions_walked
def PySem.W.Fast.tw11556577227912474579 : Nat := 0
def PySem.W.Fast.tw12679780752677309020 : Nat := 0
def PySem.W.Fast.tw13034835750620217764 : Nat := 0
def PySem.W.Fast.tw13264494739410944672 : Nat := 0
def PySem.W.Fast.tw14154314571818994548 : Nat := 0
def PySem.W.Fast.tw14409487520514336321 : Nat := 0
def PySem.W.Fast.tw16342423515823316953 : Nat := 0
def PySem.W.Fast.tw16578584388075996184 : Nat := 0
def PySem.W.Fast.tw1727151801394995566 : Nat := 0
def PySem.W.Fast.tw17819805804378635486 : Nat := 0
def PySem.W.Fast.tw18425361225929182296 : Nat := 0
def PySem.W.Fast.tw2243229053645611913 : Nat := 0
def PySem.W.Fast.tw2525662947571467759 : Nat := 0
def PySem.W.Fast.tw2620751733610572771 : Nat := 0
def PySem.W.Fast.tw4842384479115785440 : Nat := 0
def PySem.W.Fast.tw5818032073229022885 : Nat := 0
def PySem.W.Fast.tw6078932229919033699 : Nat := 0
def PySem.W.Fast.tw6611410847213333539 : Nat := 0
def PySem.W.Fast.tw6716381428087228665 : Nat := 0
def PySem.W.Fast.tw7052116112550018094 : Nat := 0
def PySem.W.Fast.tw7108394065638179296 : Nat := 0
def PySem.W.Fast.tw7291819618687188475 : Nat := 0
def PySem.W.Fast.tw789714710729747917 : Nat := 0
def PySem.W.Fast.tw8215233382611950785 : Nat := 0
def PySem.W.Fast.tw8397790866741585326 : Nat := 0
def PySem.W.Fast.tw9185491582305592956 : Nat := 0
def PySem.W.Fast.tw9517266866576317107 : Nat := 0
def PySem.W.Fast.tw7230474912498824828 : Nat := 0
set_option Elab.async false
set_option linter.all false
set_option maxRecDepth 100000
namespace L2
open PySem PySem.Spec PyProof.Rows
abbrev Key := Sum Int Str
def keyIs : Key → Value → Bool
 | .inl k, v => Value.isInt k v
 | .inr x, v => Value.isStrOf x v
def keyH (w : World) : Key → Int
 | .inl k => hashInt k
 | .inr x => hashStr w x
theorem keyIs_shape : ∀ {k : Key} {v : Value}, keyIs k v = true → (∃ i t, k = Sum.inl i ∧ v = Value.int i t) ∨ (∃ x t, k = Sum.inr x ∧ v = Value.str x t)
 | .inl i, v, h => by
  obtain ⟨t, e⟩ := Value.isInt_shape (k := i) (v := v) h
  exact .inl ⟨i, t, rfl, e⟩
 | .inr x, v, h => by
  obtain ⟨t, e⟩ := Value.isStrOf_shape (x := x) (v := v) h
  exact .inr ⟨x, t, rfl, e⟩
theorem keyIs_int (i : Int) (t : Tok) : keyIs (.inl i) (.int i t) = true := by simp [keyIs, Value.isInt]
theorem keyIs_str (x : Str) (t : Tok) : keyIs (.inr x) (.str x t) = true := by simp [keyIs, Value.isStrOf]
theorem key_ll (a b : Int) : decide ((Sum.inl a : Key) = Sum.inl b) = (a == b) := by
 by_cases e : a = b
 ·subst e; simp
 ·have h : ¬ (Sum.inl a : Key) = Sum.inl b := fun q => e (Sum.inl.inj q)
  rw [decide_eq_false h]
  exact (beq_eq_false_iff_ne.mpr e).symm
theorem key_rr (a b : Str) : decide ((Sum.inr a : Key) = Sum.inr b) = decide (a = b) := by
 by_cases e : a = b
 ·subst e; simp
 ·have h : ¬ (Sum.inr a : Key) = Sum.inr b := fun q => e (Sum.inr.inj q)
  rw [decide_eq_false h, decide_eq_false e]
theorem key_lr (a : Int) (b : Str) : decide ((Sum.inl a : Key) = Sum.inr b) = false := decide_eq_false (fun q => nomatch q)
theorem key_rl (a : Str) (b : Int) : decide ((Sum.inr a : Key) = Sum.inl b) = false := decide_eq_false (fun q => nomatch q)
def mixKind (prog : Program) (w : World) : PySem.KeyKind prog w Key where
 is := keyIs
 hash := keyH w
 inj := fun v a b ha hb => by
  rcases keyIs_shape ha with ⟨i, t, rfl, rfl⟩ | ⟨x, t, rfl, rfl⟩
  ·rcases keyIs_shape hb with ⟨j, u, rfl, e⟩ | ⟨y, u, rfl, e⟩
   ·injection e with e1 _; rw [e1]
   ·exact nomatch e
  ·rcases keyIs_shape hb with ⟨j, u, rfl, e⟩ | ⟨y, u, rfl, e⟩
   ·exact nomatch e
   ·injection e with e1 _; rw [e1]
 byValue := fun k v h => by
  rcases keyIs_shape h with ⟨i, t, rfl, rfl⟩ | ⟨x, t, rfl, rfl⟩ <;> rfl
 pyHash := fun hv h => by
  rcases keyIs_shape hv with ⟨i, t, rfl, rfl⟩ | ⟨x, t, rfl, rfl⟩
  ·exact wpAny_pyHash_int h
  ·exact wpAny_pyHash_str h
 eqBool := fun hu hv h => by
  rcases keyIs_shape hu with ⟨i, t, rfl, rfl⟩ | ⟨x, t, rfl, rfl⟩
  ·rcases keyIs_shape hv with ⟨j, u, rfl, rfl⟩ | ⟨y, u, rfl, rfl⟩
   ·rw [key_ll] at h; exact wpAny_eqBool_int h
   ·rw [key_lr] at h; exact SeqAt.EqAt.int_str i t y u _ _ _ _ h
  ·rcases keyIs_shape hv with ⟨j, u, rfl, rfl⟩ | ⟨y, u, rfl, rfl⟩
   ·rw [key_rl] at h; exact SeqAt.EqAt.str_int x t j u _ _ _ _ h
   ·rw [key_rr] at h; exact wpAny_eqBool_str h
 «strs» := fun k x t v h => by
  rcases keyIs_shape h with ⟨i, u, rfl, e⟩ | ⟨y, u, rfl, e⟩
  ·exact nomatch e
  ·injection e with e1 _
   subst e1
   cases v <;> rfl
theorem mixKind_int (prog : Program) (w : World) (i : Int) (t : Tok) : (mixKind prog w).is (.inl i) (.int i t) = true := keyIs_int i t
theorem mixKind_str (prog : Program) (w : World) (x : Str) (t : Tok) : (mixKind prog w).is (.inr x) (.str x t) = true := keyIs_str x t
end L2
namespace L2
open PySem PySem.Spec PyProof.Rows
inductive V where
 | non | bl (b : Bool) | int (i : Int) | str (x : Str) | byt (b : Array UInt8) | flt (b : UInt64) | ref (a : Addr) | ty (n : String)
 deriving DecidableEq
def RelV : V → Value → Prop
 | .non, u => u = Value.none
 | .bl b, u => u = Value.bool b
 | .int i, u => ∃ t, u = Value.int i t
 | .str x, u => ∃ t, u = Value.str x t
 | .byt b, u => ∃ t, u = Value.bytes b t
 | .flt b, u => ∃ t, u = Value.float b t
 | .ref a, u => u = Value.ref a
 | .ty n, u => u = Value.type n
abbrev Vals : List V → List Value → Prop := Paired RelV
theorem Vals.length {xs : List V} {us : List Value} (r : Vals xs us) : xs.length = us.length := Paired.length r
theorem Vals.get : ∀ {xs : List V} {us : List Value} {i : Nat} {x : V}, Vals xs us → xs[i]? = some x → ∃ u, us[i]? = some u ∧ RelV x u
 | _, _, _, _, .nil, e => by simp at e
 | _, _, 0, _, .cons r _, e => by simp at e; subst e; exact ⟨_, rfl, r⟩
 | _, _, i + 1, x, .cons _ t, e => by
  obtain ⟨u, h1, h2⟩ := Vals.get (i := i) (x := x) t (by simpa using e)
  exact ⟨u, by simpa using h1, h2⟩
theorem Vals.set {x : V} {u : Value} (r : RelV x u) : ∀ {xs : List V} {us : List Value} (i : Nat), Vals xs us → Vals (xs.set i x) (us.set i u)
 | _, _, _, .nil => .nil
 | _, _, 0, .cons _ t => .cons r t
 | _, _, i + 1, .cons q t => .cons q (Vals.set r i t)
theorem Vals.append : ∀ {xs ys : List V} {us ws : List Value}, Vals xs us → Vals ys ws → Vals (xs ++ ys) (us ++ ws)
 | _, _, _, _, .nil, s => s
 | _, _, _, _, .cons r t, s => .cons r (Vals.append t s)
theorem Vals.take : ∀ {xs : List V} {us : List Value} (n : Nat), Vals xs us → Vals (xs.take n) (us.take n)
 | _, _, 0, _ => .nil
 | _, _, _ + 1, .nil => .nil
 | _, _, n + 1, .cons r t => .cons r (Vals.take n t)
theorem Vals.drop : ∀ {xs : List V} {us : List Value} (n : Nat), Vals xs us → Vals (xs.drop n) (us.drop n)
 | _, _, 0, r => r
 | _, _, _ + 1, .nil => .nil
 | _, _, n + 1, .cons _ t => Vals.drop n t
def RelO : Option V → Option Value → Prop
 | some v, some u => RelV v u
 | none, none => True
 | _, _ => False
def KV {κ : Type} : List (κ × V) → List (κ × Value) → Prop := Paired fun (p : κ × V) (q : κ × Value) => p.1 = q.1 ∧ RelV p.2 q.2
def kV : Key → V
 | .inl i => .int i
 | .inr x => .str x
inductive HO where
 | lst (xs : List V)
 | tup (xs : List V)
 | dK (kvs : List (Key × V)) | dT (kvs : List (List Key × V))
 | set (S : Int → Bool) (n : Nat)
 | ins (C dx : Addr) (fs : List (Str × V))
 | own (x : Addr)
 | xd (fs : List (Str × V))
 | met (f x : Addr)
 | rng (lo hi : Int)
 | frz (o : Obj) (u : HO)
 | tbl (ps : Array Value)
 | ext (φ : Heap → Prop)
abbrev Hp := Addr → Option HO
def upd (H : Hp) (a : Addr) (o : HO) : Hp := fun b => if b = a then some o else H b
theorem upd_same {H : Hp} {a : Addr} {o : HO} : upd H a o a = some o := by unfold upd; rw [if_pos rfl]
theorem upd_ne {H : Hp} {a b : Addr} {o : HO} (h : b ≠ a) : upd H a o b = H b := by unfold upd; rw [if_neg h]
theorem upd_upd {H : Hp} {a : Addr} {o u : HO} : upd (upd H a o) a u = upd H a u := by
 funext b; unfold upd; split <;> rfl
theorem ne_of {H : Hp} {a b : Addr} {o u : HO} (h : H a = some o) (h' : H b = some u) (d : o ≠ u) : a ≠ b := by
 intro e; subst e; rw [h] at h'; exact d (Option.some.inj h')
theorem ne_of_none {H : Hp} {a b : Addr} {o : HO} (h : H a = some o) (h' : H b = none) : a ≠ b := by
 intro e; subst e; rw [h] at h'; cases h'
section
variable (P : Program) (w : World)
def ObjOk (H : Hp) (h : Heap) (a : Addr) : HO → Prop
 | .lst xs => xs.length ≤ sizeLine ∧ ∃ (its : List Value) (n : Nat), Vals xs its ∧ h.get? a = some { cls := .type "list", data := .seq its.toArray n }
 | .tup xs => xs.length ≤ sizeLine ∧ ∃ its : List Value, Vals xs its ∧ IsTup h a its.toArray
 | .dK kvs => kvs.length ≤ sizeLine ∧ (a == sysModules) = false ∧ ∃ vs, KV kvs vs ∧ h.DictOf (mixKind P w) a vs
 | .dT kvs => kvs.length ≤ sizeLine ∧ (a == sysModules) = false ∧ ∃ xs : List (List Key × Addr × Value),
   Paired (fun (p : List Key × V) (q : List Key × Addr × Value) => p.1 = q.1 ∧ H q.2.1 = some (.tup (p.1.map kV)) ∧ RelV p.2 q.2.2) kvs xs ∧
   ∃ o es ep, h.get? a = some o ∧ o.ExactDict ∧ o.data = .dict es ep ∧ es.toList = xs.map (entryOfKey (tupleKind (mixKind P w))) ∧ (xs.map (·.1)).Nodup
 | .set S n => h.SetOf (intKind P w) a S n
 | .ins C dx fs => H dx = some (.own a) ∧ fs.length ≤ 1000 ∧ dx ≠ a ∧ h.get? a = some (PySem.W.instObj C dx) ∧
   ∃ mA, h.Ns1 dx mA ∧ (∀ f, RelO (fs.lookup f) (mA f)) ∧ PySem.Within mA (fs.map (·.1))
 | .own _ => ∃ o, h.get? a = some o
 | .xd fs => ∃ mA, h.Ns1 a mA ∧ ∀ f, RelO (fs.lookup f) (mA f)
 | .rng lo hi => ∃ t u v, h.get? a = some { cls := .type "range", data := .fields #[.int lo t, .int hi u, .int 1 v] }
 | .frz o u => h.get? a = some o ∧ ObjOk H h a u
 | .tbl ps => h.get? a = some { cls := .none, data := .fields ps }
 | .met f x => h.get? a = some (PySem.W.methodObj (.ref f) (.ref x))
 | .ext φ => φ h ∧ (∃ o, h.get? a = some o) ∧ ∀ h1 h2 : Heap, φ h1 → (∀ o, h1.get? a = some o → h2.get? a = some o) → φ h2
def HOk (H : Hp) (h : Heap) : Prop := ∀ a o, H a = some o → ObjOk P w H h a o
end
section
variable {P : Program} {w : World} {H H' : Hp} {h h' : Heap} {a : Addr} {o : HO}
theorem ObjOk.lt (x : ObjOk P w H h a o) : a < h.objs.size := by
 cases o with
 | lst xs => obtain ⟨_, _, _, _, e⟩ := x; exact Heap.lt_size e
 | tup xs => obtain ⟨_, _, _, p⟩ := x; exact p.lt
 | dK kvs => obtain ⟨_, _, _, _, o, _, _, e, _⟩ := x; exact Heap.lt_size e
 | dT kvs => obtain ⟨_, _, _, _, o, _, _, e, _⟩ := x; exact Heap.lt_size e
 | set S n => obtain ⟨o, _, _, _, e, _⟩ := x; exact Heap.lt_size e
 | ins C dx fs => obtain ⟨_, _, _, e, _⟩ := x; exact Heap.lt_size e
 | own y => obtain ⟨_, e⟩ := x; exact Heap.lt_size e
 | xd fs => obtain ⟨_, ⟨_, _, _, e, _⟩, _⟩ := x; exact Heap.lt_size e
 | rng lo hi => obtain ⟨_, _, _, e⟩ := x; exact Heap.lt_size e
 | frz ob u => obtain ⟨e, _⟩ := x; exact Heap.lt_size e
 | tbl ps => exact Heap.lt_size (show h.get? a = some _ from x)
 | met f y => exact Heap.lt_size (show h.get? a = some _ from x)
 | ext φ => obtain ⟨_, ⟨_, e⟩, _⟩ := x; exact Heap.lt_size e
theorem Paired.mapP {α β : Type} {F G : α → β → Prop} : ∀ {l₁ : List α} {l₂ : List β}, Paired F l₁ l₂ → (∀ a b, F a b → G a b) → Paired G l₁ l₂
 | _, _, .nil, _ => .nil
 | _, _, .cons r t, f => .cons (f _ _ r) (Paired.mapP t f)
theorem ObjOk.stay (x : ObjOk P w H h a o) (k : ∀ b u, (b = a ∨ H b = some (.own a)) → h.get? b = some u → h'.get? b = some u)
  (ho : ∀ b, H b = some (.own a) → H' b = some (.own a)) (ht : ∀ b xs, H b = some (.tup xs) → H' b = some (.tup xs)) : ObjOk P w H' h' a o := by
 induction o with
 | lst xs => obtain ⟨z, its, n, r, e⟩ := x; exact ⟨z, its, n, r, k _ _ (.inl rfl) e⟩
 | tup xs => obtain ⟨z, its, r, ob, e, c⟩ := x; exact ⟨z, its, r, ob, k _ _ (.inl rfl) e, c⟩
 | dK kvs => obtain ⟨z, y, vs, r, ob, es, ep, e, c⟩ := x; exact ⟨z, y, vs, r, ob, es, ep, k _ _ (.inl rfl) e, c⟩
 | dT kvs =>
  obtain ⟨z, y, xs, r, ob, es, ep, e, c⟩ := x
  exact ⟨z, y, xs, Paired.mapP r fun p q z => ⟨z.1, ht _ _ z.2.1, z.2.2⟩, ob, es, ep, k _ _ (.inl rfl) e, c⟩
 | set S n => obtain ⟨ob, es, ep, t, e, c⟩ := x; exact ⟨ob, es, ep, t, k _ _ (.inl rfl) e, c⟩
 | ins C dx fs =>
  obtain ⟨d, z, ne, e, mA, ⟨od, es, ep, e2, c⟩, r⟩ := x
  exact ⟨ho _ d, z, ne, k _ _ (.inl rfl) e, mA, ⟨od, es, ep, k _ _ (.inr d) e2, c⟩, r⟩
 | own y => obtain ⟨ob, e⟩ := x; exact ⟨ob, k _ _ (.inl rfl) e⟩
 | xd fs => obtain ⟨mA, ⟨od, es, ep, e, c⟩, r⟩ := x; exact ⟨mA, ⟨od, es, ep, k _ _ (.inl rfl) e, c⟩, r⟩
 | rng lo hi => obtain ⟨t, u, v, e⟩ := x; exact ⟨t, u, v, k _ _ (.inl rfl) e⟩
 | frz ob u ih => obtain ⟨e, q⟩ := x; exact ⟨k _ _ (.inl rfl) e, ih q⟩
 | tbl ps =>
  have e : h.get? a = some { cls := .none, data := .fields ps } := x
  show h'.get? a = some { cls := .none, data := .fields ps }
  exact k a _ (.inl rfl) e
 | met f y =>
  have e : h.get? a = some (PySem.W.methodObj (.ref f) (.ref y)) := x
  show h'.get? a = some (PySem.W.methodObj (.ref f) (.ref y))
  exact k a _ (.inl rfl) e
 | ext φ => obtain ⟨p, ⟨o, e⟩, st⟩ := x; exact ⟨st _ _ p fun o q => k _ _ (.inl rfl) q, ⟨o, k _ _ (.inl rfl) e⟩, st⟩
theorem HOk.lt (x : HOk P w H h) (e : H a = some o) : a < h.objs.size := (x a o e).lt
theorem HOk.fresh (x : HOk P w H h) (e : h.objs.size ≤ a) : H a = none := by
 cases q : H a with
 | none => rfl
 | some u => exact absurd (Nat.lt_of_lt_of_le (x.lt q) e) (Nat.lt_irrefl _)
theorem HOk.kept (x : HOk P w H h) (k : ∀ b u, h.get? b = some u → h'.get? b = some u) : HOk P w H h' := fun a o e =>
 (x a o e).stay (fun b u _ q => k b u q) (fun _ q => q) fun _ _ q => q
theorem HOk.laid (x : HOk P w H h) (k : ∀ b u, h.get? b = some u → h'.get? b = some u) (hp : h.objs.size ≤ a) (new : ObjOk P w (upd H a o) h' a o) : HOk P w (upd H a o) h' := fun b u e => by
 have hn := x.fresh hp
 by_cases hb : b = a
 ·subst hb; rw [upd_same] at e; cases e; exact new
 ·rw [upd_ne hb] at e
  exact (x b u e).stay (fun c v _ q => k c v q) (fun c q => by rw [upd_ne (ne_of_none q hn)]; exact q) fun c xs q => by rw [upd_ne (ne_of_none q hn)]; exact q
end
def Rd (H : Hp) (a : Addr) (u : HO) : Prop := H a = some u ∨ ∃ o, H a = some (.frz o u)
theorem Rd.ok {P : Program} {w : World} {H : Hp} {h : Heap} {a : Addr} {u : HO} (r : Rd H a u) (x : HOk P w H h) : ObjOk P w H h a u := by
 rcases r with r | ⟨o, r⟩
 ·exact x a u r
 ·obtain ⟨_, q⟩ := x a _ r
  exact q
def Mut : Option HO → Prop
 | some (.lst _) => True
 | some (.dK _) => True
 | some (.dT _) => True
 | some (.set _ _) => True
 | some (.ins _ _ _) => True
 | some (.ext _) => True
 | _ => False
section
variable {P : Program} {w : World} {H : Hp} {h h' : Heap} {x e : Addr} {o' : HO}
theorem HOk.write (ok : HOk P w H h) (mu : Mut (H x)) (he : e = x ∨ H e = some (.own x)) (k : ∀ b u, b ≠ e → h.get? b = some u → h'.get? b = some u) (heo : ∃ u, h'.get? e = some u)
  (new : ObjOk P w (upd H x o') h' x o') : HOk P w (upd H x o') h' := fun b u q => by
 have nown : ∀ c y, H c = some (.own y) → c ≠ x := fun c y r z => by subst z; rw [r] at mu; exact mu
 have ntup : ∀ c xs, H c = some (.tup xs) → c ≠ x := fun c xs r z => by subst z; rw [r] at mu; exact mu
 by_cases hb : b = x
 ·subst hb; rw [upd_same] at q; cases q; exact new
 ·rw [upd_ne hb] at q
  by_cases hbe : b = e
  ·have q' : H b = some (.own x) := by
    rcases he with z | z
    ·exact absurd (hbe.trans z) hb
    ·rw [hbe]; exact z
   rw [q] at q'; cases q'
   obtain ⟨v, hv⟩ := heo
   exact ⟨v, by rw [hbe]; exact hv⟩
  ·refine (ok b u q).stay (fun c v hc r => k c v ?_ r) (fun c r => by rw [upd_ne (nown c b r)]; exact r) fun c xs r => by rw [upd_ne (ntup c xs r)]; exact r
   rcases hc with rfl | hc
   ·exact hbe
   ·rintro rfl
    rcases he with z | z
    ·exact nown c b hc z
    ·rw [hc] at z; cases z; exact hb rfl
end
structure Un (fs ex : List Addr) (H H' : Hp) (h h' : Heap) : Prop where
 keep : ∀ b o, h.get? b = some o → H b = none → b ∉ fs → b ∉ ex → h'.get? b = some o
 slot : ∀ b o, h.get? b = some o → H b = none → b ∈ fs → b ∉ ex → ∃ sl, h'.get? b = some { o with slots := sl }
 free : ∀ b o, h.get? b = some o → H b = none → b ∉ ex → H' b = none
 there : ∀ b o, h.get? b = some o → b ∉ ex → ∃ o', h'.get? b = some o'
 tups : ∀ b xs, H b = some (.tup xs) → H' b = some (.tup xs)
 frzs : ∀ b o u, H b = some (.frz o u) → H' b = some (.frz o u)
 tbls : ∀ b ps, H b = some (.tbl ps) → ∃ more, H' b = some (.tbl (ps ++ more))
section
variable {fs fs' ex ex' : List Addr} {H H1 H2 : Hp} {h h1 h2 h' : Heap} {a x e : Addr} {o : HO}
theorem Un.any (u : Un fs ex H H1 h h1) {b : Addr} {ob : Obj} (q : h.get? b = some ob) (n : H b = none) (hx : b ∉ ex) : ∃ sl, h1.get? b = some { ob with slots := sl } := by
 by_cases hb : b ∈ fs
 ·exact u.slot b ob q n hb hx
 ·exact ⟨ob.slots, u.keep b ob q n hb hx⟩
theorem Un.kept (k : ∀ b u, h.get? b = some u → h'.get? b = some u) : Un fs ex H H h h' :=
 ⟨fun b ob q _ _ _ => k b ob q, fun b ob q _ _ _ => ⟨ob.slots, k b ob q⟩, fun _ _ _ n _ => n, fun b ob q _ => ⟨ob, k b ob q⟩, fun _ _ q => q, fun _ _ _ q => q, fun _ ps q => ⟨#[], by rw [q]; simp⟩⟩
theorem Un.refl : Un fs ex H H h h := Un.kept fun _ _ q => q
theorem Un.laid (k : ∀ b u, h.get? b = some u → h'.get? b = some u) (hp : h.objs.size ≤ a) (hn : H a = none) : Un fs ex H (upd H a o) h h' where
 keep := fun b u q _ _ _ => k b u q
 slot := fun b u q _ _ _ => ⟨u.slots, k b u q⟩
 free := fun b u q n _ => by rw [upd_ne (Nat.ne_of_lt (Nat.lt_of_lt_of_le (Heap.lt_size q) hp))]; exact n
 there := fun b u q _ => ⟨u, k b u q⟩
 tups := fun b xs q => by rw [upd_ne (ne_of_none q hn)]; exact q
 frzs := fun b u xs q => by rw [upd_ne (ne_of_none q hn)]; exact q
 tbls := fun b ps q => ⟨#[], by rw [upd_ne (ne_of_none q hn), q]; simp⟩
theorem Un.write (mu : Mut (H x)) (he : e = x ∨ H e = some (.own x)) (k : ∀ b u, b ≠ e → h.get? b = some u → h'.get? b = some u) (heo : ∃ u, h'.get? e = some u) : Un fs ex H (upd H x o) h h' := by
 have hx : ∀ b, H b = none → b ≠ x := fun b n z => by subst z; rw [n] at mu; exact mu
 have hb : ∀ b, H b = none → b ≠ e := fun b n z => by
  subst z
  rcases he with r | r
  ·exact hx b n r
  ·rw [n] at r; cases r
 have hm : ∀ b u, H b = some u → ¬ Mut (some u) → b ≠ x := fun b u q nm z => by subst z; rw [q] at mu; exact nm mu
 refine ⟨fun b u q n _ _ => k b u (hb b n) q, fun b u q n _ _ => ⟨u.slots, k b u (hb b n) q⟩, fun b u q n _ => by rw [upd_ne (hx b n)]; exact n, fun b u q _ => ?_,
  fun b xs q => by rw [upd_ne (hm b _ q fun z => z)]; exact q, fun b u xs q => by rw [upd_ne (hm b _ q fun z => z)]; exact q, fun b ps q => ⟨#[], by rw [upd_ne (hm b _ q fun z => z), q]; simp⟩⟩
 by_cases hbe : b = e
 ·subst hbe; exact heo
 ·exact ⟨u, k b u hbe q⟩
end
def trk (h : Heap) (H : Hp) : List Addr := (List.range h.objs.size).filter fun a => (H a).isSome
def hidT (h : Heap) (H : Hp) : Heap := PySem.W.hideAll h (trk h H)
theorem hidT_size (h : Heap) (H : Hp) : (hidT h H).objs.size = h.objs.size := PySem.W.hideAll_size _ _
theorem hidT_get {h : Heap} {H : Hp} {b : Addr} {o : Obj} (e : h.get? b = some o) (n : H b = none) : (hidT h H).get? b = some o :=
 PySem.W.hideAll_get _ e fun hm => by
  have q : (H b).isSome = true := (List.mem_filter.mp hm).2
  rw [n] at q; simp at q
theorem of_hidT {h : Heap} {H : Hp} {b : Addr} {o : Obj} (e : (hidT h H).get? b = some o) : h.get? b = some o ∧ H b = none := by
 have e' : h.get? b = some o := PySem.W.of_hideAll (trk h H) e
 refine ⟨e', ?_⟩
 cases q : H b with
 | none => rfl
 | some x =>
  have hm : b ∈ trk h H := List.mem_filter.mpr ⟨List.mem_range.mpr (Heap.lt_size e'), by simp [q]⟩
  have z : (hidT h H).get? b = none := PySem.W.hideAll_none (trk h H) hm
  rw [z] at e; cases e
end L2
namespace L2
open PySem PySem.Spec PyProof.Rows
structure Mod (K : PySem.W.Frag) (mg : Str → Option Value) (base : Heap) : Prop where
 kin : K.In base
 glob : base.Ns mainGlobals mg
 blt : ∃ mb, base.Ns builtinsNs mb ∧ ∀ x : Str, x ≠ "__name__" → mb x = bootBuiltins x
 nolimit : base.NoLimit
structure Cx where
 prog : Program
 w : World
 K : PySem.W.Frag
 mg : Str → Option Value
 base : Heap
 A : Around
 N : List Str
 s₀ : Shared
 H₀ : Hp
 env : Env
 outer : List Env
 stack : List Env
 ex : List Addr
 fn : Str → Bool
 calm : Bool
 pn : List (Addr × Obj)
 xe : Value → Shared → Prop
def frs (l : List Env) : List Addr := l.filterMap (·.frame)
abbrev Cx.fs (X : Cx) : List Addr := frs X.outer
def Vis (sc : Scope) (x : Str) : Prop := sc.names.lookup x = some .local ∨ sc.names.lookup x = some .cell ∨ sc.names.lookup x = some .free
def Loc (sc : Scope) (x : Str) : Prop := sc.names.lookup x = some .local ∨ sc.names.lookup x = some .cell
def Look (env : Env) (h : Heap) (m : Str → Option Value) (x : Str) (u : Value) : Prop :=
 (env.kindOf x = some .local ∧ m x = some u) ∨ ((env.kindOf x = some .cell ∨ env.kindOf x = some .free) ∧ ∃ c, env.cells.lookup x = some c ∧ h.IsCell c (some u))
structure Cx.Ok (X : Cx) : Prop where
 mod : Mod X.K X.mg X.base
 kind : X.env.scope.kind = .function
 glob : X.env.globals = mainGlobals
 blt : X.env.builtins = builtinsNs
 above : X.s₀.heap.objs.size ≤ X.env.locals
 inj : ∀ x y c, X.env.cells.lookup x = some c → X.env.cells.lookup y = some c → x = y
 has : ∀ x, (X.env.kindOf x = some .cell ∨ X.env.kindOf x = some .free) → ∃ c, X.env.cells.lookup x = some c
 cab : ∀ x c, X.fn x = true → X.env.cells.lookup x = some c → X.s₀.heap.objs.size ≤ c
 hd : X.calm = true → X.A.handled = none
 frames : X.A.frames = some X.stack
 stk : X.stack = X.outer ∨ (X.stack = X.env :: X.outer ∧ X.env.frame = some X.env.locals)
 exf : ∀ b ∈ X.ex, b ≠ X.env.locals ∧ ∀ x c, X.env.cells.lookup x = some c → c ≠ b
 bs : ∀ b o, X.base.get? b = some o → X.s₀.heap.get? b = some o ∧ X.H₀ b = none
 bsz : X.base.objs.size ≤ X.s₀.heap.objs.size
 noex : ∀ b o, X.base.get? b = some o → b ∉ X.ex
 exfs : ∀ b ∈ X.ex, b ∉ X.fs
 funs : X.s₀.heap.FunFrames X.base X.outer
 frf : ∀ b ∈ X.fs, X.H₀ b = none
structure Inv (X : Cx) (pins : List (Addr × Obj)) (σ : List (Option V)) (H : Hp) (s : Shared) : Prop where
 ok : X.Ok
 os : s.os = X.s₀.os
 bare : AllBare s.gens
 base : Un X.fs X.ex X.H₀ H X.s₀.heap s.heap
 loc : ∃ m, s.heap.Ns X.env.locals m ∧ ∀ (i : Nat) (x : Str) (v : V), X.N[i]? = some x → σ[i]? = some (some v) → Vis X.env.scope x → ∃ u, RelV v u ∧ Look X.env s.heap m x u
 cell : ∀ x c, X.env.cells.lookup x = some c → ∃ v, s.heap.IsCell c v
 free : H X.env.locals = none
 freeC : ∀ x c, X.env.cells.lookup x = some c → H c = none
 pin : ∀ p ∈ X.pn ++ pins, s.heap.get? p.1 = some p.2 ∧ H p.1 = none ∧ p.1 ≠ X.env.locals ∧ p.1 ∉ X.fs ∧ ∀ v, p.2.data ≠ .cell v
 hok : HOk X.prog X.w H s.heap
 len : σ.length = X.N.length
section
variable {X : Cx} {pins : List (Addr × Obj)} {σ : List (Option V)} {H H' : Hp} {s : Shared} {h' : Heap}
theorem Cx.Ok.nofr (ok : X.Ok) {b : Addr} {o : Obj} (e : X.base.get? b = some o) : b ∉ X.fs := fun hb => by
 have := (ok.funs.mem hb).1
 rw [e] at this; cases this
theorem Inv.bs (I : Inv X pins σ H s) : ∀ b o, X.base.get? b = some o → s.heap.get? b = some o ∧ H b = none := fun b o e =>
 ⟨I.base.keep b o (I.ok.bs b o e).1 (I.ok.bs b o e).2 (I.ok.nofr e) (I.ok.noex b o e), I.base.free b o (I.ok.bs b o e).1 (I.ok.bs b o e).2 (I.ok.noex b o e)⟩
theorem Inv.bk (I : Inv X pins σ H s) : ∀ b o, X.base.get? b = some o → s.heap.get? b = some o := fun b o e => (I.bs b o e).1
theorem Inv.mod (I : Inv X pins σ H s) : Mod X.K X.mg X.base := I.ok.mod
theorem Inv.kIn (I : Inv X pins σ H s) : X.K.In s.heap := I.ok.mod.kin.keeps I.bk
theorem Inv.lt (I : Inv X pins σ H s) : X.env.locals < s.heap.objs.size := let ⟨_, hn, _⟩ := I.loc; hn.lt
theorem Inv.sz (I : Inv X pins σ H s) : X.s₀.heap.objs.size ≤ s.heap.objs.size := Nat.le_trans I.ok.above (Nat.le_of_lt I.lt)
theorem Inv.nofs (I : Inv X pins σ H s) {a : Addr} (h : s.heap.objs.size ≤ a) : a ∉ X.fs := fun hb => by
 obtain ⟨_, o, ho, _⟩ := I.ok.funs.mem hb
 exact absurd (Nat.lt_of_lt_of_le (Heap.lt_size ho) (Nat.le_trans I.sz h)) (Nat.lt_irrefl _)
theorem Inv.cne (I : Inv X pins σ H s) : ∀ x c, X.env.cells.lookup x = some c → c ≠ X.env.locals := fun x c e z => by
 obtain ⟨v, o, ho, hd⟩ := I.cell x c e
 obtain ⟨m, ⟨o', es, ep, ho', hd', _⟩, _⟩ := I.loc
 rw [z, ho'] at ho; cases ho; rw [hd'] at hd; cases hd
theorem Inv.funs (I : Inv X pins σ H s) : s.heap.FunFrames X.base X.outer := by
 have all : ∀ (l : List Env), (∀ b ∈ frs l, b ∈ X.fs) → X.s₀.heap.FunFrames X.base l → s.heap.FunFrames X.base l := by
  intro l
  induction l with
  | nil => intro _ _; trivial
  | cons env r ih =>
   intro hs hl
   obtain ⟨hk, ⟨L, o, hf, hn, ho, hd⟩, hr⟩ := hl
   have hL : L ∈ X.fs := hs L (by unfold frs; rw [List.filterMap_cons, hf]; exact List.mem_cons_self)
   obtain ⟨sl, e⟩ := I.base.slot L o ho (I.ok.frf L hL) hL fun z => I.ok.exfs L z hL
   exact ⟨hk, ⟨L, _, hf, hn, e, hd⟩, ih (fun b hb => hs b (by unfold frs; rw [List.filterMap_cons, hf]; exact List.mem_cons_of_mem _ hb)) hr⟩
 exact all X.outer (fun _ hb => hb) I.ok.funs
theorem Inv.stack (I : Inv X pins σ H s) : s.heap.FunFrames X.base X.stack := by
 rcases I.ok.stk with e | ⟨e, hf⟩
 ·rw [e]; exact I.funs
 ·rw [e]
  obtain ⟨m, hn, _⟩ := I.loc
  refine .cons (by rw [I.ok.kind]; decide) hf hn ?_ I.funs
  exact Heap.get?_none_of_le (Nat.le_trans I.ok.bsz I.ok.above)
theorem Inv.stkSub (I : Inv X pins σ H s) : ∀ b ∈ frs X.stack, b ∈ X.env.locals :: X.fs := fun b hb => by
 rcases I.ok.stk with e | ⟨e, hf⟩
 ·rw [e] at hb; exact List.mem_cons_of_mem _ hb
 ·rw [e] at hb
  unfold frs at hb
  rw [List.filterMap_cons, hf] at hb
  exact hb
theorem Inv.stkFree (I : Inv X pins σ H s) : ∀ b ∈ frs X.stack, H b = none := fun b hb => by
 rcases List.mem_cons.mp (I.stkSub b hb) with e | hb
 ·rw [e]; exact I.free
 ·obtain ⟨_, o, ho, _⟩ := I.ok.funs.mem hb
  exact I.base.free b o ho (I.ok.frf b hb) fun z => I.ok.exfs b z hb
theorem Inv.step {g' : Array GenState} {t' : Nat} {d' : Drawn} {ch : List Addr} (I : Inv X pins σ H s)
  (hch : ∀ b ∈ ch, (b ∈ X.ex ∨ X.s₀.heap.objs.size ≤ b) ∧ b ≠ X.env.locals ∧ (∀ x c, X.env.cells.lookup x = some c → c ≠ b) ∧ ∀ p ∈ X.pn ++ pins, p.1 ≠ b)
  (keep : ∀ b o, b ≠ X.env.locals → b ∉ X.fs → b ∉ ch → s.heap.get? b = some o → H b = none → h'.get? b = some o)
  (slot : ∀ b o, b ≠ X.env.locals → b ∈ X.fs → b ∉ ch → s.heap.get? b = some o → H b = none → ∃ sl, h'.get? b = some { o with slots := sl }) (free : ∀ b o, b ∉ ch → s.heap.get? b = some o → H b = none → H' b = none)
  (there : ∀ b o, b ∉ ch → s.heap.get? b = some o → ∃ o', h'.get? b = some o')
  (tups : ∀ b xs, H b = some (.tup xs) → H' b = some (.tup xs)) (frzs : ∀ b o u, H b = some (.frz o u) → H' b = some (.frz o u)) (tbls : ∀ b ps, H b = some (.tbl ps) → ∃ more, H' b = some (.tbl (ps ++ more)))
  (ns : ∀ m, s.heap.Ns X.env.locals m → h'.Ns X.env.locals m) (hok : HOk X.prog X.w H' h') (hg : AllBare g') :
  Inv X pins σ H' { s with heap := h', gens := g', drawn := d', toks := t' } := by
 have neL : ∀ b o, X.s₀.heap.get? b = some o → b ≠ X.env.locals := fun b o e => Nat.ne_of_lt (Nat.lt_of_lt_of_le (Heap.lt_size e) I.ok.above)
 have neC : ∀ b o, X.s₀.heap.get? b = some o → b ∉ X.ex → b ∉ ch := fun b o e hx hb => by
  rcases (hch b hb).1 with z | z
  ·exact hx z
  ·exact absurd (Nat.lt_of_lt_of_le (Heap.lt_size e) z) (Nat.lt_irrefl _)
 have cellK : ∀ x c, X.env.cells.lookup x = some c → ∀ v, s.heap.IsCell c v → h'.IsCell c v := fun x c e v ⟨o, ho, hd⟩ => by
  have nch : c ∉ ch := fun z => (hch c z).2.2.1 x c e rfl
  by_cases hc : c ∈ X.fs
  ·obtain ⟨sl, q⟩ := slot c o (I.cne x c e) hc nch ho (I.freeC x c e)
   exact ⟨_, q, hd⟩
  ·exact ⟨o, keep c o (I.cne x c e) hc nch ho (I.freeC x c e), hd⟩
 refine ⟨I.ok, I.os, hg, ⟨fun b o e n hb hx => ?_, fun b o e n hb hx => ?_, fun b o e n hx => ?_, fun b o e hx => ?_, fun b xs e => tups b xs (I.base.tups b xs e), fun b o xs e => frzs b o xs (I.base.frzs b o xs e), fun b ps e => ?_⟩, ?_, fun x c e => ?_, ?_, fun x c e => ?_, fun p hp => ?_, hok, I.len⟩
 ·exact keep b o (neL b o e) hb (neC b o e hx) (I.base.keep b o e n hb hx) (I.base.free b o e n hx)
 ·obtain ⟨sl, e1⟩ := I.base.slot b o e n hb hx
  obtain ⟨sl', e2⟩ := slot b _ (neL b o e) hb (neC b o e hx) e1 (I.base.free b o e n hx)
  exact ⟨sl', e2⟩
 ·obtain ⟨o', e1⟩ := I.base.there b o e hx
  exact free b o' (neC b o e hx) e1 (I.base.free b o e n hx)
 ·obtain ⟨o', e1⟩ := I.base.there b o e hx
  exact there b o' (neC b o e hx) e1
 ·obtain ⟨m1, e1⟩ := I.base.tbls b ps e
  obtain ⟨m2, e2⟩ := tbls b _ e1
  exact ⟨m1 ++ m2, by rw [e2, Array.append_assoc]⟩
 ·obtain ⟨m, hn, hl⟩ := I.loc
  refine ⟨m, ns m hn, fun i x v e1 e2 e3 => ?_⟩
  obtain ⟨u, r, l⟩ := hl i x v e1 e2 e3
  refine ⟨u, r, ?_⟩
  rcases l with l | ⟨k, c, e, z⟩
  ·exact .inl l
  ·exact .inr ⟨k, c, e, cellK x c e _ z⟩
 ·obtain ⟨v, z⟩ := I.cell x c e
  exact ⟨v, cellK x c e v z⟩
 ·obtain ⟨m, ⟨o, _, _, ho, _⟩, _⟩ := I.loc
  exact free _ o (fun z => (hch _ z).2.1 rfl) ho I.free
 ·obtain ⟨v, o, ho, hd⟩ := I.cell x c e
  exact free c o (fun z => (hch c z).2.2.1 x c e rfl) ho (I.freeC x c e)
 ·obtain ⟨e, n, ne, nf, d⟩ := I.pin p hp
  have nch : p.1 ∉ ch := fun z => (hch p.1 z).2.2.2 p hp rfl
  exact ⟨keep p.1 p.2 ne nf nch e n, free p.1 p.2 nch e n, ne, nf, d⟩
theorem Inv.un {t' : Nat} (I : Inv X pins σ H s) (u : Un X.fs [] H H' s.heap h') (hok : HOk X.prog X.w H' h') : Inv X pins σ H' { s with heap := h', toks := t' } := by
 obtain ⟨m, ⟨o, es, ep, ho, r⟩, _⟩ := id I.loc
 obtain ⟨sl, hL⟩ := u.any ho I.free (by simp)
 exact I.step (g' := s.gens) (d' := s.drawn) (ch := []) (fun _ z => nomatch z) (fun b o _ hb _ e n => u.keep b o e n hb (by simp)) (fun b o _ hb _ e n => u.slot b o e n hb (by simp)) (fun b o _ e n => u.free b o e n (by simp)) (fun b o _ e => u.there b o e (by simp)) u.tups u.frzs u.tbls (fun m' hm => by
  obtain ⟨o', es', ep', ho', r'⟩ := hm
  rw [ho] at ho'; cases ho'
  exact ⟨_, es', ep', hL, r'⟩) hok I.bare
theorem Inv.call {g' : Array GenState} {t' : Nat} {d' : Drawn} {ch : List Addr} (I : Inv X pins σ H s) (u : Un (frs X.stack) ch H H' s.heap h') (hok : HOk X.prog X.w H' h') (hg : AllBare g')
  (hch : ∀ b ∈ ch, (b ∈ X.ex ∨ X.s₀.heap.objs.size ≤ b) ∧ b ≠ X.env.locals ∧ (∀ x c, X.env.cells.lookup x = some c → c ≠ b) ∧ ∀ p ∈ X.pn ++ pins, p.1 ≠ b) :
  Inv X pins σ H' { s with heap := h', gens := g', drawn := d', toks := t' } := by
 obtain ⟨m, ⟨o, es, ep, ho, r⟩, _⟩ := id I.loc
 obtain ⟨sl, hL⟩ := u.any ho I.free fun z => (hch _ z).2.1 rfl
 exact I.step (ch := ch) hch (fun b o hL hb hc e n => u.keep b o e n (fun z => (List.mem_cons.mp (I.stkSub b z)).elim hL hb) hc) (fun b o _ _ hc e n => u.any e n hc) (fun b o hc e n => u.free b o e n hc) (fun b o hc e => u.there b o e hc) u.tups u.frzs u.tbls (fun m' hm => by
  obtain ⟨o', es', ep', ho', r'⟩ := hm
  rw [ho] at ho'; cases ho'
  exact ⟨_, es', ep', hL, r'⟩) hok hg
theorem Inv.turned {t' : Nat} {it : Addr} (I : Inv X pins σ H s) (k : ∀ b o, b ≠ it → s.heap.get? b = some o → h'.get? b = some o) (hn : H it = none) (hL : it ≠ X.env.locals)
  (h1 : it ∈ X.ex ∨ X.s₀.heap.objs.size ≤ it) (h2 : ∀ x c, X.env.cells.lookup x = some c → c ≠ it) (h3 : ∀ p ∈ X.pn ++ pins, p.1 ≠ it) : Inv X pins σ H { s with heap := h', toks := t' } := by
 have nit : ∀ b u, H b = some u → b ≠ it := fun b u e z => by rw [z, hn] at e; cases e
 refine I.step (g' := s.gens) (d' := s.drawn) (ch := [it]) (fun b hb => ?_) (fun b o _ _ hc e _ => k b o (fun z => hc (by simp [z])) e) (fun b o _ _ hc e _ => ⟨o.slots, k b o (fun z => hc (by simp [z])) e⟩) (fun _ _ _ _ n => n)
  (fun b o hc e => ⟨o, k b o (fun z => hc (by simp [z])) e⟩) (fun _ _ e => e) (fun _ _ _ e => e) (fun b ps e => ⟨#[], by rw [e]; simp⟩) (fun m hm => ?_) (fun b u e => ?_) I.bare
 ·have e : b = it := by simpa using hb
  subst e
  exact ⟨h1, hL, h2, h3⟩
 ·obtain ⟨o, es, ep, ho, r⟩ := hm
  exact ⟨o, es, ep, k _ o (Ne.symm hL) ho, r⟩
 ·refine (I.hok b u e).stay (fun c v hc q => k c v ?_ q) (fun _ q => q) fun _ _ q => q
  rcases hc with z | z
  ·rw [z]; exact nit b u e
  ·exact nit c _ z
theorem Inv.tok (I : Inv X pins σ H s) (t : Nat) : Inv X pins σ H { s with toks := t } := I.un (h' := s.heap) (t' := t) Un.refl I.hok
theorem Inv.kept {t' : Nat} (I : Inv X pins σ H s) (k : ∀ b u, s.heap.get? b = some u → h'.get? b = some u) : Inv X pins σ H { s with heap := h', toks := t' } := I.un (Un.kept k) (I.hok.kept k)
theorem Inv.laid {a : Addr} {o : HO} {t' : Nat} (I : Inv X pins σ H s) (k : ∀ b u, s.heap.get? b = some u → h'.get? b = some u) (hp : s.heap.objs.size ≤ a) (new : ObjOk X.prog X.w (upd H a o) h' a o) :
  Inv X pins σ (upd H a o) { s with heap := h', toks := t' } := I.un (Un.laid k hp (I.hok.fresh hp)) (I.hok.laid k hp new)
theorem Inv.write {x e : Addr} {o : HO} {t' : Nat} (I : Inv X pins σ H s) (mu : Mut (H x)) (he : e = x ∨ H e = some (.own x)) (k : ∀ b u, b ≠ e → s.heap.get? b = some u → h'.get? b = some u) (heo : ∃ u, h'.get? e = some u)
  (new : ObjOk X.prog X.w (upd H x o) h' x o) : Inv X pins σ (upd H x o) { s with heap := h', toks := t' } := I.un (Un.write mu he k heo) (I.hok.write mu he k heo new)
theorem Inv.pins_of {pins' : List (Addr × Obj)} (I : Inv X pins σ H s) (h : ∀ p ∈ pins', s.heap.get? p.1 = some p.2 ∧ H p.1 = none ∧ p.1 ≠ X.env.locals ∧ p.1 ∉ X.fs ∧ ∀ v, p.2.data ≠ .cell v) : Inv X pins' σ H s :=
 ⟨I.ok, I.os, I.bare, I.base, I.loc, I.cell, I.free, I.freeC, fun p hp => (List.mem_append.mp hp).elim (fun z => I.pin p (List.mem_append_left _ z)) (h p), I.hok, I.len⟩
theorem nodup_ix {N : List Str} (hN : N.Nodup) {i j : Nat} {x : Str} (a : N[i]? = some x) (b : N[j]? = some x) : i = j := by
 obtain ⟨h1, e1⟩ := List.getElem?_eq_some_iff.mp a
 obtain ⟨h2, e2⟩ := List.getElem?_eq_some_iff.mp b
 exact (List.getElem_inj hN).mp (e1.trans e2.symm)
theorem store_ok2 {M : Model} {A : Around} {E : Value → Shared → Prop} {i : Nat} {x : Str} {v : V} {u : Value} {Q : Unit → Shared → Prop} (I : Inv X pins σ H s) (hN : X.N.Nodup) (hi : X.N[i]? = some x) (hx : Loc X.env.scope x) (r : RelV v u)
  (h : ∀ s', Inv X pins (σ.set i (some v)) H s' → (∃ a, Heap.SameBut a s.heap s'.heap ∧ (a = X.env.locals ∨ X.env.cells.lookup x = some a)) → Q () s') (hf : X.fn x = true ∨ X.env.scope.names.lookup x = some .local := by first | exact .inl rfl | exact .inr rfl | assumption) : wpAny M A (storeName X.env x u) Q E s := by
 obtain ⟨m, hn, hl⟩ := id I.loc
 have hcls : (X.env.scope.kind == .class || (X.env.scope.kind == .module && X.env.locals != X.env.globals)) = false := by rw [I.ok.kind]; rfl
 have hiσ : i < σ.length := by rw [I.len]; exact (List.getElem?_eq_some_iff.mp hi).1
 have cne := I.cne
 have tracked : ∀ {a : Addr} {h' : Heap}, (∃ o, s.heap.get? a = some o ∧ H a = none) → Heap.SameBut a s.heap h' → HOk X.prog X.w H h' := fun {a h'} ha hs b ob e => by
  obtain ⟨_, _, hfree⟩ := ha
  refine (I.hok b ob e).stay (fun c w' hc q => (hs.2 c ?_).trans q) (fun _ q => q) fun _ _ q => q
  rintro rfl
  rcases hc with rfl | hc
  ·rw [hfree] at e; cases e
  ·rw [hfree] at hc; cases hc
 rcases hx with hk | hk
 ·refine wpAny_storeName_local hk hn (fun h' hn' hs => ?_) hcls
  obtain ⟨oL, _, _, hoL, _⟩ := id hn
  refine h _ ⟨I.ok, I.os, I.bare, ⟨fun b o e n hb hx => ?_, fun b o e n hb hx => ?_, I.base.free, fun b o e hx => ?_, I.base.tups, I.base.frzs, I.base.tbls⟩, ⟨_, hn', fun j y v' e1 e2 e3 => ?_⟩, fun y c e => ?_, I.free, I.freeC, fun p hp => ?_, tracked ⟨oL, hoL, I.free⟩ hs, by simpa using I.len⟩ ⟨_, hs, .inl rfl⟩
  ·exact (hs.2 b (Nat.ne_of_lt (Nat.lt_of_lt_of_le (Heap.lt_size e) I.ok.above))).trans (I.base.keep b o e n hb hx)
  ·obtain ⟨sl, e1⟩ := I.base.slot b o e n hb hx
   exact ⟨sl, (hs.2 b (Nat.ne_of_lt (Nat.lt_of_lt_of_le (Heap.lt_size e) I.ok.above))).trans e1⟩
  ·obtain ⟨o', e1⟩ := I.base.there b o e hx
   exact ⟨o', (hs.2 b (Nat.ne_of_lt (Nat.lt_of_lt_of_le (Heap.lt_size e) I.ok.above))).trans e1⟩
  ·by_cases hj : j = i
   ·subst hj
    rw [hi] at e1; cases e1
    rw [List.getElem?_set_self hiσ] at e2
    cases e2
    exact ⟨u, r, .inl ⟨hk, by simp⟩⟩
   ·rw [List.getElem?_set_ne (Ne.symm hj)] at e2
    obtain ⟨u', r', q⟩ := hl j y v' e1 e2 e3
    refine ⟨u', r', ?_⟩
    rcases q with ⟨k, e⟩ | ⟨k, c, e, z⟩
    ·refine .inl ⟨k, ?_⟩
     have : y ≠ x := fun e => hj (nodup_ix hN e1 (e ▸ hi))
     simp [this, e]
    ·exact .inr ⟨k, c, e, z.sameBut hs (cne y c e)⟩
  ·obtain ⟨w', z⟩ := I.cell y c e
   exact ⟨w', z.sameBut hs (cne y c e)⟩
  ·obtain ⟨e, n, ne, nf, d⟩ := I.pin p hp
   exact ⟨(hs.2 p.1 ne).trans e, n, ne, nf, d⟩
 ·have hfn : X.fn x = true := by
   rcases hf with z | z
   ·exact z
   ·rw [z] at hk; cases hk
  obtain ⟨c, hc⟩ := I.ok.has x (.inl hk)
  obtain ⟨w', z⟩ := I.cell x c hc
  refine wpAny_storeName_cell I.ok.kind hk hc z (fun h' hc' hs => ?_)
  obtain ⟨oc, hoc, hocd⟩ := id z
  refine h { s with heap := h' } ⟨I.ok, I.os, I.bare, ⟨fun b o e n hb hx => ?_, fun b o e n hb hx => ?_, I.base.free, fun b o e hx => ?_, I.base.tups, I.base.frzs, I.base.tbls⟩, ⟨m, hn.sameBut hs (Ne.symm (cne x c hc)), fun j y v' e1 e2 e3 => ?_⟩, fun y c' e => ?_, I.free, I.freeC, fun p hp => ?_, tracked ⟨oc, hoc, I.freeC x c hc⟩ hs, by simpa using I.len⟩ ⟨c, hs, .inr hc⟩
  ·exact (hs.2 b (Nat.ne_of_lt (Nat.lt_of_lt_of_le (Heap.lt_size e) (I.ok.cab x c hfn hc)))).trans (I.base.keep b o e n hb hx)
  ·obtain ⟨sl, e1⟩ := I.base.slot b o e n hb hx
   exact ⟨sl, (hs.2 b (Nat.ne_of_lt (Nat.lt_of_lt_of_le (Heap.lt_size e) (I.ok.cab x c hfn hc)))).trans e1⟩
  ·obtain ⟨o', e1⟩ := I.base.there b o e hx
   exact ⟨o', (hs.2 b (Nat.ne_of_lt (Nat.lt_of_lt_of_le (Heap.lt_size e) (I.ok.cab x c hfn hc)))).trans e1⟩
  ·by_cases hj : j = i
   ·subst hj
    rw [hi] at e1; cases e1
    rw [List.getElem?_set_self hiσ] at e2
    cases e2
    exact ⟨u, r, .inr ⟨.inl hk, c, hc, hc'⟩⟩
   ·rw [List.getElem?_set_ne (Ne.symm hj)] at e2
    obtain ⟨u', r', q⟩ := hl j y v' e1 e2 e3
    refine ⟨u', r', ?_⟩
    rcases q with q | ⟨k, c', e, z'⟩
    ·exact .inl q
    ·refine .inr ⟨k, c', e, z'.sameBut hs ?_⟩
     rintro rfl
     exact hj (nodup_ix hN e1 (I.ok.inj _ _ _ e hc ▸ hi))
  ·by_cases hcc : c' = c
   ·subst hcc; exact ⟨_, hc'⟩
   ·obtain ⟨w2, z2⟩ := I.cell y c' e
    exact ⟨w2, z2.sameBut hs hcc⟩
  ·obtain ⟨e, n, ne, nf, d⟩ := I.pin p hp
   refine ⟨(hs.2 p.1 ?_).trans e, n, ne, nf, d⟩
   intro q
   rw [q, hoc] at e
   have q' : oc = p.2 := Option.some.inj e
   exact d w' (by rw [← q']; exact hocd)
theorem store_ok {M : Model} {A : Around} {E : Value → Shared → Prop} {i : Nat} {x : Str} {v : V} {u : Value} {Q : Unit → Shared → Prop} (I : Inv X pins σ H s) (hN : X.N.Nodup) (hi : X.N[i]? = some x) (hx : Loc X.env.scope x) (r : RelV v u)
  (h : ∀ s', Inv X pins (σ.set i (some v)) H s' → Q () s') (hf : X.fn x = true ∨ X.env.scope.names.lookup x = some .local := by first | exact .inl rfl | exact .inr rfl | assumption) : wpAny M A (storeName X.env x u) Q E s :=
 store_ok2 I hN hi hx r (fun s' I' _ => h s' I') hf
theorem Inv.call' {s' : Shared} {ch : List Addr} (I : Inv X pins σ H s) (ho : s'.os = s.os) (u : Un (frs X.stack) ch H H' s.heap s'.heap) (hok : HOk X.prog X.w H' s'.heap) (hg : AllBare s'.gens)
  (hch : ∀ b ∈ ch, (b ∈ X.ex ∨ X.s₀.heap.objs.size ≤ b) ∧ b ≠ X.env.locals ∧ (∀ x c, X.env.cells.lookup x = some c → c ≠ b) ∧ ∀ p ∈ X.pn ++ pins, p.1 ≠ b) : Inv X pins σ H' s' := by
 obtain ⟨h', g', d', t', o'⟩ := s'
 have e : o' = s.os := ho
 subst e
 exact I.call (g' := g') (t' := t') (d' := d') u hok hg hch
end
abbrev XK := Value → Option Addr → Hp → Prop
abbrev St := List (Option V)
abbrev VK := V → Hp → Prop
abbrev TE := St → Hp → VK → Prop
abbrev TT := St → Hp → (Bool → Hp → Prop) → Prop
abbrev TA := St → Hp → (List V → Hp → Prop) → Prop
structure Ends where
 nx : St → Hp → Prop
 rt : VK
 bk : St → Hp → Prop := fun _ _ => False
 ct : St → Hp → Prop := fun _ _ => False
abbrev TS := Ends → St → Hp → Prop
def EP (X : Cx) (pins : List (Addr × Obj)) (σ : St) (Q : VK) (u : Value) (s' : Shared) : Prop := ∃ v H', Inv X pins σ H' s' ∧ RelV v u ∧ Q v H'
def TP (X : Cx) (pins : List (Addr × Obj)) (σ : St) (Q : Bool → Hp → Prop) (b : Bool) (s' : Shared) : Prop := ∃ H', Inv X pins σ H' s' ∧ Q b H'
def AP (X : Cx) (pins : List (Addr × Obj)) (σ : St) (Q : List V → Hp → Prop) (us : List Value) (s' : Shared) : Prop := ∃ vs H', Inv X pins σ H' s' ∧ Vals vs us ∧ Q vs H'
def SP (X : Cx) (pins : List (Addr × Obj)) (D : Ends) (f : Flow) (s' : Shared) : Prop :=
 match f with
 | .next => ∃ σ' H', Inv X pins σ' H' s' ∧ D.nx σ' H'
 | .brk => ∃ σ' H', Inv X pins σ' H' s' ∧ D.bk σ' H'
 | .cont => ∃ σ' H', Inv X pins σ' H' s' ∧ D.ct σ' H'
 | .ret u => ∃ v σ' H', Inv X pins σ' H' s' ∧ RelV v u ∧ D.rt v H'
def PE (X : Cx) (e : Expr) (t : TE) : Prop :=
 ∀ (pins : List (Addr × Obj)) (s : Shared) (σ : St) (H : Hp) (Q : VK), Inv X pins σ H s → t σ H Q → wpAny (model X.prog X.w) X.A (eval e X.env) (EP X pins σ Q) X.xe s
def PT (X : Cx) (e : Expr) (t : TT) : Prop :=
 ∀ (pins : List (Addr × Obj)) (s : Shared) (σ : St) (H : Hp) (Q : Bool → Hp → Prop), Inv X pins σ H s → t σ H Q → wpAny (model X.prog X.w) X.A (isTrue e X.env (eval e X.env)) (TP X pins σ Q) X.xe s
def PW (X : Cx) (e : Expr) (t : TT) : Prop :=
 ∀ (whole : Sem Value) (pins : List (Addr × Obj)) (s : Shared) (σ : St) (H : Hp) (Q : Bool → Hp → Prop), Inv X pins σ H s → t σ H Q → wpAny (model X.prog X.w) X.A (isTrue e X.env whole) (TP X pins σ Q) X.xe s
theorem PW.pt {X : Cx} {e : Expr} {t : TT} (h : PW X e t) : PT X e t := h _
def PA (X : Cx) (es : List Expr) (t : TA) : Prop :=
 ∀ (pos : Pos) (pins : List (Addr × Obj)) (s : Shared) (σ : St) (H : Hp) (Q : List V → Hp → Prop), Inv X pins σ H s → t σ H Q → wpAny (model X.prog X.w) X.A (spliced (backTo pos (starEach es X.env))) (AP X pins σ Q) X.xe s
def PS (X : Cx) (st : Stmt) (t : TS) : Prop :=
 ∀ (pins : List (Addr × Obj)) (s : Shared) (σ : St) (H : Hp) (D : Ends), Inv X pins σ H s → t D σ H → wpAny (model X.prog X.w) X.A (exec st X.env) (SP X pins D) X.xe s
def PSs (X : Cx) (st : List Stmt) (t : TS) : Prop :=
 ∀ (pins : List (Addr × Obj)) (s : Shared) (σ : St) (H : Hp) (D : Ends), Inv X pins σ H s → t D σ H → wpAny (model X.prog X.w) X.A (execs st X.env) (SP X pins D) X.xe s
theorem thn {α : Type} {t : Sem α} {Q Q' : α → Shared → Prop} {M : Model} {A : Around} {E : Value → Shared → Prop} {s : Shared} (h : wpAny M A t Q E s) (hQ : ∀ a s, Q a s → Q' a s) : wpAny M A t Q' E s := wpAny_mono h hQ fun _ _ x => x
end L2
namespace L2
open PySem PySem.Spec PyProof.Rows
section
variable {X : Cx}
def tVar (i : Nat) : TE := fun σ H Q => ∃ v, σ[i]? = some (some v) ∧ Q v H
def tC (v : V) : TE := fun _ H Q => Q v H
theorem pe_var {i : Nat} {x : Str} {pos : Pos} (hN : X.N[i]? = some x) (hv : Vis X.env.scope x) (hd : (x == ("__debug__" : Str)) = false := by decide) (hcd : (x == ("__classdict__" : Str)) = false := by decide) : PE X (.Name x pos) (tVar i) := by
 intro pins s σ H Q I h
 obtain ⟨v, e, h⟩ := h
 obtain ⟨m, hn, hl⟩ := I.loc
 obtain ⟨u, r, l⟩ := hl i x v hN e hv
 have fin : EP X pins σ Q u s := ⟨v, H, I, r, h⟩
 rcases l with ⟨hk, hm⟩ | ⟨hk, c, hc, hcell⟩
 ·exact wpAny_Name (wpAny_loadName_local I.ok.kind hk hn hm fin) hd
 ·rcases hk with hk | hk
  ·exact wpAny_Name (wpAny_loadName_cell I.ok.kind hk hc hcell fin) hd
  ·exact wpAny_Name (wpAny_loadName_free I.ok.kind hk hc hcell fin hcd) hd
theorem pe_int {i j pos} : PE X (.Constant (.int i) j pos) (tC (.int i)) := fun _ _ _ H _ I h => wpAny_Constant_int ⟨.int i, H, I.tok _, ⟨_, rfl⟩, h⟩
theorem pe_bl {b j pos} : PE X (.Constant (.bool b) j pos) (tC (.bl b)) := fun _ _ _ H _ I h => Constant_bool ⟨.bl b, H, I, rfl, h⟩
theorem pe_non {j pos} : PE X (.Constant .none j pos) (tC .non) := fun _ _ _ H _ I h => Constant_none ⟨.non, H, I, rfl, h⟩
theorem pe_str {x j pos} : PE X (.Constant (.str x) j pos) (tC (.str x)) := fun _ _ _ H _ I h => Calls.Constant_str ⟨.str x, H, I.tok _, ⟨_, rfl⟩, h⟩
def Gl (X : Cx) (x : Str) : Prop := X.env.kindOf x = some .globalImplicit
theorem ld_glob {E : Value → Shared → Prop} {pins : List (Addr × Obj)} {s : Shared} {σ : St} {H : Hp} {x : Str} {u : Value} {pos : Pos} {Q : Value → Shared → Prop} (I : Inv X pins σ H s) (hg : Gl X x) (hm : X.mg x = some u) (h : Q u s)
  (hd : (x == ("__debug__" : Str)) = false := by decide) : wpAny (model X.prog X.w) X.A (eval (.Name x pos) X.env) Q E s :=
 Calls.Name_function_global I.ok.kind hg (Calls.loadGlobal_global (by rw [I.ok.glob]; exact I.mod.glob.keeps I.bk) hm h) hd
theorem ld_blt {E : Value → Shared → Prop} {pins : List (Addr × Obj)} {s : Shared} {σ : St} {H : Hp} {x : Str} {u : Value} {pos : Pos} {Q : Value → Shared → Prop} (I : Inv X pins σ H s) (hg : Gl X x) (hm : X.mg x = none) (hv : bootBuiltins x = some u) (h : Q u s)
  (hn : x ≠ "__name__" := by decide) (hd : (x == ("__debug__" : Str)) = false := by decide) : wpAny (model X.prog X.w) X.A (eval (.Name x pos) X.env) Q E s := by
 obtain ⟨mb, h1, h2⟩ := I.mod.blt
 exact Calls.Name_function_global I.ok.kind hg (Calls.loadGlobal_builtin (by rw [I.ok.glob]; exact I.mod.glob.keeps I.bk) hm (by rw [I.ok.blt]; exact h1.keeps I.bk) ((h2 x hn).trans hv) h) hd
theorem pe_glob {x : Str} {v : V} {u : Value} {pos : Pos} (hg : Gl X x) (hm : X.mg x = some u) (r : RelV v u) (hd : (x == ("__debug__" : Str)) = false := by decide) : PE X (.Name x pos) (tC v) :=
 fun _ _ _ H _ I h => ld_glob I hg hm ⟨v, H, I, r, h⟩ hd
theorem pe_bltn {x : Str} {v : V} {u : Value} {pos : Pos} (hg : Gl X x) (hm : X.mg x = none) (hv : bootBuiltins x = some u) (r : RelV v u) (hn : x ≠ "__name__" := by decide) (hd : (x == ("__debug__" : Str)) = false := by decide) : PE X (.Name x pos) (tC v) :=
 fun _ _ _ H _ I h => ld_blt I hg hm hv ⟨v, H, I, r, h⟩ hn hd
variable {a b : Expr} {ta tb : TE} {pos : Pos}
def PC (X : Cx) (op : CmpOp) (a b : Expr) (t : TE) : Prop :=
 ∀ (pins : List (Addr × Obj)) (s : Shared) (σ : St) (H : Hp) (Q : VK), Inv X pins σ H s → t σ H Q →
  wpAny (model X.prog X.w) X.A (eval a X.env) (fun v s₁ => wpAny (model X.prog X.w) X.A (eval b X.env) (fun u s₂ => wpAny (model X.prog X.w) X.A (compareOp op v u) (EP X pins σ Q) X.xe s₂) X.xe s₁) X.xe s
theorem nobehind (b : Expr) {op : CmpOp} (h : op ≠ .In) (h2 : op ≠ .NotIn) : behindInMarks op b = false := by
 have e1 : (op == CmpOp.In) = false := by cases op <;> first | rfl | exact absurd rfl h
 have e2 : (op == CmpOp.NotIn) = false := by cases op <;> first | rfl | exact absurd rfl h2
 cases b <;> simp [behindInMarks, e1, e2]
def tNotN (ta : TE) : TE := fun σ H Q => ta σ H fun x H1 => Q (.bl (!decide (x = .non))) H1
theorem RelV.none_iff {x : V} {v : Value} (r : RelV x v) : (v == Value.none) = decide (x = .non) := by
 cases x with
 | non => cases r; rfl
 | bl _ => cases r; rfl
 | int _ => obtain ⟨t, rfl⟩ := r; rfl
 | str _ => obtain ⟨t, rfl⟩ := r; rfl
 | byt _ => obtain ⟨t, rfl⟩ := r; rfl
 | flt _ => obtain ⟨t, rfl⟩ := r; rfl
 | ref _ => cases r; rfl
 | ty _ => cases r; rfl
theorem pc_notN {j pos'} (ha : PE X a ta) : PC X .IsNot a (.Constant .none j pos') (tNotN ta) := by
 intro pins s σ H Q I h
 refine thn (ha pins s σ H _ I h) fun v s1 ⟨x, H1, I1, r1, q1⟩ => ?_
 exact Constant_none (isnot_none_gen ⟨.bl _, H1, I1, by rw [r1.none_iff]; rfl, q1⟩)
def tB (t : TE) : TT := fun σ H Q => t σ H fun x H1 => ∃ c, x = .bl c ∧ Q c H1
theorem pt_cmp {op : CmpOp} {t : TE} (h : PC X op a b t) (h1 : behindInMarks op b = false := by first | exact nobehind _ (by decide) (by decide) | rfl) : PT X (.Compare a [op] [b] pos) (tB t) := by
 intro pins s σ H Q I hw
 refine wpAny_isTrue_Compare1 (thn (h pins s σ H _ I hw) fun v s1 h1 => thn h1 fun u s2 h2 => thn h2 fun c s3 ⟨x, H1, I1, r1, q1⟩ => ?_) h1
 obtain ⟨d, rfl, q⟩ := q1
 cases r1
 exact wpAny_truthy_bool ⟨H1, I1, q⟩
theorem pt_val {e : Expr} {t : TE} (h : PE X e t) (he : ∀ whole, isTrue e X.env whole = (do let v ← whole; standAt e.pos; holding [v] (truthy v)) := by intro _; rfl) : PT X e (tB t) := by
 intro pins s σ H Q I hw
 refine isTrue_plain (thn (h pins s σ H _ I hw) fun v s1 ⟨x, H1, I1, r1, q1⟩ => ?_) (he _)
 obtain ⟨d, rfl, q⟩ := q1
 cases r1
 exact wpAny_truthy_bool ⟨H1, I1, q⟩
variable {tA tB' : TT} {rest : List Expr}
def tAnd (t u : TT) : TT := fun σ H Q => t σ H fun c H1 => if c = true then u σ H1 Q else Q false H1
def tOr (t u : TT) : TT := fun σ H Q => t σ H fun c H1 => if c = true then Q true H1 else u σ H1 Q
def tNot (t : TT) : TT := fun σ H Q => t σ H fun c H1 => Q (!c) H1
theorem pw_and1 (ha : PT X a tA) : PW X (.BoolOp .And [a] pos) tA := by
 intro wh pins s σ H Q I h
 refine isTrue_and (thn (ha pins s σ H Q I h) fun c s1 e => ?_)
 cases c with
 | true => exact isTrue_and_nil e
 | false => exact e
theorem pw_or1 (ha : PT X a tA) : PW X (.BoolOp .Or [a] pos) tA := by
 intro wh pins s σ H Q I h
 refine isTrue_or (thn (ha pins s σ H Q I h) fun c s1 e => ?_)
 cases c with
 | false => exact isTrue_or_nil e
 | true => exact e
theorem pw_and (ha : PT X a tA) (hb : PW X (.BoolOp .And (b :: rest) pos) tB') : PW X (.BoolOp .And (a :: b :: rest) pos) (tAnd tA tB') := by
 intro wh pins s σ H Q I h
 refine isTrue_and (thn (ha pins s σ H _ I h) fun c s1 ⟨H1, I1, q1⟩ => ?_)
 cases c with
 | true => exact hb wh pins s1 σ H1 Q I1 q1
 | false => exact ⟨H1, I1, q1⟩
theorem pw_or (ha : PT X a tA) (hb : PW X (.BoolOp .Or (b :: rest) pos) tB') : PW X (.BoolOp .Or (a :: b :: rest) pos) (tOr tA tB') := by
 intro wh pins s σ H Q I h
 refine isTrue_or (thn (ha pins s σ H _ I h) fun c s1 ⟨H1, I1, q1⟩ => ?_)
 cases c with
 | true => exact ⟨H1, I1, q1⟩
 | false => exact hb wh pins s1 σ H1 Q I1 q1
theorem pt_not (ha : PT X a tA) : PT X (.UnaryOp .Not a pos) (tNot tA) := by
 intro pins s σ H Q I h
 exact isTrue_not (ha pins s σ H (fun c H1 => Q (!c) H1) I h)
def tAndV (ta tb : TE) : TE := fun σ H Q => ta σ H fun x H1 => ∃ c, x = .bl c ∧ if c = true then tb σ H1 Q else Q (.bl false) H1
def tOrV (ta tb : TE) : TE := fun σ H Q => ta σ H fun x H1 => ∃ c, x = .bl c ∧ if c = true then Q (.bl true) H1 else tb σ H1 Q
def tNotV (ta : TE) : TE := fun σ H Q => ta σ H fun x H1 => ∃ c, x = .bl c ∧ Q (.bl (!c)) H1
theorem pe_one {op} {t : TE} (h : PE X a t) : PE X (.BoolOp op [a] pos) t := fun pins s σ H Q I hw => BoolOp_one (h pins s σ H Q I hw)
theorem pe_and (ha : PE X a ta) (hb : PE X (.BoolOp .And (b :: rest) pos) tb) : PE X (.BoolOp .And (a :: b :: rest) pos) (tAndV ta tb) := by
 intro pins s σ H Q I h
 refine BoolOp_and (thn (ha pins s σ H _ I h) fun v s1 ⟨x, H1, I1, r1, q1⟩ => ?_)
 obtain ⟨c, rfl, q1⟩ := q1
 cases r1
 refine wpAny_truthy_bool ?_
 cases c with
 | true => exact hb pins s1 σ H1 Q I1 q1
 | false => exact ⟨.bl false, H1, I1, rfl, q1⟩
theorem pe_or (ha : PE X a ta) (hb : PE X (.BoolOp .Or (b :: rest) pos) tb) : PE X (.BoolOp .Or (a :: b :: rest) pos) (tOrV ta tb) := by
 intro pins s σ H Q I h
 refine BoolOp_or (thn (ha pins s σ H _ I h) fun v s1 ⟨x, H1, I1, r1, q1⟩ => ?_)
 obtain ⟨c, rfl, q1⟩ := q1
 cases r1
 refine wpAny_truthy_bool ?_
 cases c with
 | false => exact hb pins s1 σ H1 Q I1 q1
 | true => exact ⟨.bl true, H1, I1, rfl, q1⟩
theorem pe_not (ha : PE X a ta) : PE X (.UnaryOp .Not a pos) (tNotV ta) := by
 intro pins s σ H Q I h
 refine UnaryOp_ (thn (ha pins s σ H _ I h) fun v s1 ⟨x, H1, I1, r1, q1⟩ => ?_)
 obtain ⟨c, rfl, q1⟩ := q1
 cases r1
 exact not_of (wpAny_truthy_bool ⟨.bl (!c), H1, I1, rfl, q1⟩)
def tIf (t : TT) (ta tb : TE) : TE := fun σ H Q => t σ H fun c H1 => if c = true then ta σ H1 Q else tb σ H1 Q
theorem pe_ifExp {c : Expr} (hc : PT X c tA) (ha : PE X a ta) (hb : PE X b tb) : PE X (.IfExp c a b pos) (tIf tA ta tb) := by
 intro pins s σ H Q I h
 refine wpAny_IfExp (thn (hc pins s σ H _ I h) fun d s1 ⟨H1, I1, q1⟩ => ?_)
 cases d with
 | true => exact ha pins s1 σ H1 Q I1 q1
 | false => exact hb pins s1 σ H1 Q I1 q1
end
end L2
namespace L2
open PySem PySem.Spec PyProof.Rows
def SqL (K : PySem.W.Frag) (H : Hp) (a : Addr) (xs : List V) : Prop :=
 Rd H a (.lst xs) ∨
  ∃ (o : Obj) (its : Array Value) (n : Nat), K.lookup a = some o ∧ o.cls = .type "list" ∧ o.dict = none ∧ o.data = .seq its n ∧ its.size ≤ sizeLine ∧ Vals xs its.toList
def SqT (K : PySem.W.Frag) (H : Hp) (a : Addr) (xs : List V) : Prop :=
 Rd H a (.tup xs) ∨
  ∃ (o : Obj) (its : Array Value) (n : Nat), K.lookup a = some o ∧ o.cls = .type "tuple" ∧ o.data = .seq its n ∧ its.size ≤ sizeLine ∧ Vals xs its.toList
def absV : Value → Option V
 | .none => some .non
 | .bool b => some (.bl b)
 | .int i _ => some (.int i)
 | .str x _ => some (.str x)
 | .bytes b _ => some (.byt b)
 | .float b _ => some (.flt b)
 | .ref a => some (.ref a)
 | .type n => some (.ty n)
 | _ => none
theorem RelV.abs {x : V} {u : Value} (r : RelV x u) : absV u = some x := by
 cases x with
 | non => cases r; rfl
 | bl _ => cases r; rfl
 | int _ => obtain ⟨t, rfl⟩ := r; rfl
 | str _ => obtain ⟨t, rfl⟩ := r; rfl
 | byt _ => obtain ⟨t, rfl⟩ := r; rfl
 | flt _ => obtain ⟨t, rfl⟩ := r; rfl
 | ref _ => cases r; rfl
 | ty _ => cases r; rfl
theorem RelV.inj {x y : V} {u : Value} (r : RelV x u) (q : RelV y u) : x = y := Option.some.inj (r.abs.symm.trans q.abs)
theorem Vals.inj : ∀ {xs ys : List V} {us : List Value}, Vals xs us → Vals ys us → xs = ys
 | _, _, _, .nil, .nil => rfl
 | _, _, _, .cons r t, .cons r' t' => by rw [r.inj r', Vals.inj t t']
section
variable {X : Cx} {pins : List (Addr × Obj)} {σ : St} {H : Hp} {s : Shared} {a : Addr} {xs ys : List V}
theorem SqL.of {K : PySem.W.Frag} (h : H a = some (.lst xs)) : SqL K H a xs := .inl (.inl h)
theorem SqT.of {K : PySem.W.Frag} (h : H a = some (.tup xs)) : SqT K H a xs := .inl (.inl h)
theorem Inv.list (I : Inv X pins σ H s) (h : SqL X.K H a xs) : ∃ its : List Value, Vals xs its ∧ PlainL s.heap a its.toArray ∧ xs.length ≤ sizeLine := by
 rcases h with h | ⟨o, its, n, hk, hc, hd, hs, hz, r⟩
 ·obtain ⟨z, its, n, r, e⟩ := h.ok I.hok
  exact ⟨its, r, ⟨_, n, e, rfl, rfl, rfl⟩, z⟩
 ·refine ⟨its.toList, r, ⟨o, n, I.kIn a o hk, hc, hd, by simpa using hs⟩, ?_⟩
  have e := r.length
  simp only [Array.length_toList] at e
  omega
theorem Inv.tuple (I : Inv X pins σ H s) (h : SqT X.K H a xs) : ∃ its : List Value, Vals xs its ∧ IsTup s.heap a its.toArray ∧ xs.length ≤ sizeLine := by
 rcases h with h | ⟨o, its, n, hk, hc, hs, hz, r⟩
 ·obtain ⟨z, its, r, p⟩ := h.ok I.hok
  exact ⟨its, r, p, z⟩
 ·refine ⟨its.toList, r, ⟨o, I.kIn a o hk, hc, n, by simpa using hs⟩, ?_⟩
  have e := r.length
  simp only [Array.length_toList] at e
  omega
theorem Inv.list_inj (I : Inv X pins σ H s) (h : SqL X.K H a xs) (h' : SqL X.K H a ys) : xs = ys := by
 obtain ⟨its, r, ⟨o, n, e, _, _, d⟩, _⟩ := I.list h
 obtain ⟨its', r', ⟨o', n', e', _, _, d'⟩, _⟩ := I.list h'
 rw [e] at e'; cases e'
 rw [d] at d'
 injection d' with d1 _
 have : its = its' := by simpa using congrArg Array.toList d1
 subst this
 exact r.inj r'
end
abbrev Cx.wish (X : Cx) (E : Value → Shared → Prop) : Cx := { X with xe := E }
abbrev Cx.nox (X : Cx) : Cx := X.wish fun _ _ => False
theorem Cx.Ok.wish {X : Cx} (ok : X.Ok) (E : Value → Shared → Prop) : (X.wish E).Ok :=
 ⟨ok.mod, ok.kind, ok.glob, ok.blt, ok.above, ok.inj, ok.has, ok.cab, ok.hd, ok.frames, ok.stk, ok.exf, ok.bs, ok.bsz, ok.noex, ok.exfs, ok.funs, ok.frf⟩
theorem Cx.Ok.unwish {X : Cx} {E : Value → Shared → Prop} (ok : (X.wish E).Ok) : X.Ok :=
 ⟨ok.mod, ok.kind, ok.glob, ok.blt, ok.above, ok.inj, ok.has, ok.cab, ok.hd, ok.frames, ok.stk, ok.exf, ok.bs, ok.bsz, ok.noex, ok.exfs, ok.funs, ok.frf⟩
section
variable {X : Cx} {pins : List (Addr × Obj)} {σ : St} {H : Hp} {s : Shared} {E : Value → Shared → Prop}
theorem Inv.wish (I : Inv X pins σ H s) (E : Value → Shared → Prop) : Inv (X.wish E) pins σ H s := ⟨I.ok.wish E, I.os, I.bare, I.base, I.loc, I.cell, I.free, I.freeC, I.pin, I.hok, I.len⟩
theorem Inv.unwish (I : Inv (X.wish E) pins σ H s) : Inv X pins σ H s := ⟨I.ok.unwish, I.os, I.bare, I.base, I.loc, I.cell, I.free, I.freeC, I.pin, I.hok, I.len⟩
theorem SP.unwish {D : Ends} {f : Flow} {s' : Shared} (h : SP (X.wish E) pins D f s') : SP X pins D f s' := by
 cases f with
 | next => obtain ⟨σ', H', I, q⟩ := h; exact ⟨σ', H', I.unwish, q⟩
 | brk => obtain ⟨σ', H', I, q⟩ := h; exact ⟨σ', H', I.unwish, q⟩
 | cont => obtain ⟨σ', H', I, q⟩ := h; exact ⟨σ', H', I.unwish, q⟩
 | ret u => obtain ⟨v, σ', H', I, r, q⟩ := h; exact ⟨v, σ', H', I.unwish, r, q⟩
theorem PSs.nox {st : List Stmt} {t : TS} (h : PSs X.nox st t) : PSs X st t := fun pins s σ H D I hw =>
 wpAny_mono (h pins s σ H D (I.wish _) hw) (fun _ _ q => q.unwish) fun _ _ z => False.elim z
end
section
variable {X : Cx} {st : Stmt} {rest : List Stmt} {t u : TS} {e : Expr} {te : TE} {pos : Pos}
def tNext : TS := fun D σ H => D.nx σ H
def tSeq (t u : TS) : TS := fun D σ H => t { D with nx := u D } σ H
theorem pss_nil : PSs X [] tNext := fun _ _ σ H _ I h => wpAny_execs_nil ⟨σ, H, I, h⟩
theorem pss_cons (h1 : PS X st t) (h2 : PSs X rest u) : PSs X (st :: rest) (tSeq t u) := by
 intro pins s σ H D I h
 refine wpAny_execs_cons (thn (h1 pins s σ H { D with nx := u D } I h) fun f s1 q => ?_)
 cases f with
 | next =>
  obtain ⟨σ', H', I', q⟩ := q
  exact h2 pins s1 σ' H' D I' q
 | ret v => exact q
 | brk => exact q
 | cont => exact q
theorem pss_one (h1 : PS X st t) : PSs X [st] t := by
 intro pins s σ H D I h
 refine wpAny_execs_cons (thn (h1 pins s σ H D I h) fun f s1 q => ?_)
 cases f with
 | next => exact wpAny_execs_nil q
 | ret v => exact q
 | brk => exact q
 | cont => exact q
theorem Inv.quiet {pins : List (Addr × Obj)} {σ : St} {H : Hp} {s : Shared} (I : Inv X pins σ H s) : interactive X.env = false := by simp [interactive, I.ok.kind]
def tDrop (te : TE) : TS := fun D σ H => te σ H fun _ H1 => D.nx σ H1
theorem ps_expr (he : PE X e te) (hs : swapsWith e none pos.line X.env = pure false := by rfl) : PS X (.Expr e pos) (tDrop te) := by
 intro pins s σ H D I h
 exact wpAny_Expr_any (thn (he pins s σ H _ I h) fun v s1 ⟨x, H1, I1, r1, q1⟩ => ⟨σ, H1, I1, q1⟩) I.quiet hs
def tRet (te : TE) : TS := fun D σ H => te σ H D.rt
theorem ps_ret (he : PE X e te) : PS X (.Return (some e) pos) (tRet te) := by
 intro pins s σ H D I h
 exact wpAny_Return_some (thn (he pins s σ H _ I h) fun v s1 ⟨x, H1, I1, r1, q1⟩ => ⟨x, σ, H1, I1, r1, q1⟩)
def tIfS (c : TT) (t u : TS) : TS := fun D σ H => c σ H fun b H1 => if b = true then t D σ H1 else u D σ H1
theorem ps_if {c : Expr} {a b : List Stmt} {tc : TT} (hc : PT X c tc) (ha : PSs X a t) (hb : PSs X b u) : PS X (.If c a b pos) (tIfS tc t u) := by
 intro pins s σ H D I h
 refine wpAny_If (thn (hc pins s σ H _ I h) fun d s1 ⟨H1, I1, q1⟩ => ?_)
 cases d with
 | true => exact ha pins s1 σ H1 D I1 q1
 | false => exact hb pins s1 σ H1 D I1 q1
end
abbrev TG := V → St → Hp → (St → Hp → Prop) → Prop
abbrev TGs := List V → St → Hp → (St → Hp → Prop) → Prop
def PG (X : Cx) (target : Expr) (t : TG) : Prop :=
 ∀ (pins : List (Addr × Obj)) (s : Shared) (σ : St) (H : Hp) (v : V) (u : Value) (Q : St → Hp → Prop), Inv X pins σ H s → RelV v u → t v σ H Q →
  wpAny (model X.prog X.w) X.A (assign target X.env u) (fun _ s' => ∃ σ' H', Inv X pins σ' H' s' ∧ Q σ' H') X.xe s
def PGs (X : Cx) (ts : List Expr) (t : TGs) : Prop :=
 ∀ (pins : List (Addr × Obj)) (s : Shared) (σ : St) (H : Hp) (vs : List V) (us : List Value) (Q : St → Hp → Prop), Inv X pins σ H s → Vals vs us → t vs σ H Q →
  wpAny (model X.prog X.w) X.A (assignInOrder ((assignEach ts X.env).map (·.2)) us) (fun _ s' => ∃ σ' H', Inv X pins σ' H' s' ∧ Q σ' H') X.xe s
abbrev TSet := V → V → V → Hp → (Hp → Prop) → Prop
def PSet (X : Cx) (t : TSet) : Prop :=
 ∀ (pins : List (Addr × Obj)) (s : Shared) (σ : St) (H : Hp) (o i v : V) (ov iv u : Value) (Q : Hp → Prop), Inv X pins σ H s → RelV o ov → RelV i iv → RelV v u → t o i v H Q →
  wpAny (model X.prog X.w) X.A (setItem ov iv u) (fun _ s' => ∃ H', Inv X pins σ H' s' ∧ Q H') X.xe s
section
variable {X : Cx} {pos : Pos}
def gName (i : Nat) : TG := fun v σ H Q => Q (σ.set i (some v)) H
theorem pg_name {i : Nat} {x : Str} (hN : X.N.Nodup) (hi : X.N[i]? = some x) (hx : Loc X.env.scope x) (hf : X.fn x = true ∨ X.env.scope.names.lookup x = some .local := by first | exact .inl rfl | exact .inr rfl | assumption) : PG X (.Name x pos) (gName i) := by
 intro pins s σ H v u Q I r h
 exact wpAny_assign_Name (store_ok I hN hi hx r (fun s' I' => ⟨_, H, I', h⟩) hf)
def gNil : TGs := fun vs σ H Q => vs = [] ∧ Q σ H
def gCons (t : TG) (u : TGs) : TGs := fun vs σ H Q => ∃ v r, vs = v :: r ∧ t v σ H fun σ' H' => u r σ' H' Q
theorem pgs_nil : PGs X [] gNil := by
 intro pins s σ H vs us Q I r h
 obtain ⟨e, h⟩ := h
 subst e
 cases r
 exact assignInOrder_nil ⟨σ, H, I, h⟩
theorem pgs_cons {e : Expr} {es : List Expr} {t : TG} {u : TGs} (h1 : PG X e t) (h2 : PGs X es u)
  (hs : (assignEach (e :: es) X.env).map (·.2) = assign e X.env :: (assignEach es X.env).map (·.2) := by rfl) : PGs X (e :: es) (gCons t u) := by
 intro pins s σ H vs us Q I r h
 obtain ⟨v, vr, e1, h⟩ := h
 subst e1
 cases r with
 | cons r rr =>
  rw [hs]
  refine assignInOrder_cons (thn (h1 pins s σ H _ _ _ I r h) fun _ s1 ⟨σ1, H1, I1, q1⟩ => ?_)
  exact h2 pins s1 σ1 H1 _ _ Q I1 rr q1
def gTup (K : PySem.W.Frag) (n : Nat) (t : TGs) : TG := fun v σ H Q => ∃ a xs, v = .ref a ∧ SqT K H a xs ∧ xs.length = n ∧ t xs σ H Q
theorem pg_tup {es : List Expr} {k : Nat} {t : TGs} {n : Nat} (hc : X.calm = true) (h : PGs X es t)
  (hn : (assignEach es X.env).length = n := by rfl) (hst : (assignEach es X.env).findIdx? (·.1) = none := by rfl) : PG X (.Tuple es k pos) (gTup X.K n t) := by
 intro pins s σ H v u Q I r hw
 obtain ⟨a, xs, e1, hq, hl, hw⟩ := hw
 subst e1
 cases r
 obtain ⟨its, rv, ht, hz⟩ := I.tuple hq
 refine assign_Tuple_tuple (I.ok.hd hc) ht (by simp [hn, ← hl, rv.length]) hst fun h' hx => ?_
 have I1 : Inv X pins σ H { s with heap := h' } := I.kept (t' := s.toks) fun b o e => hx b o (Nat.ne_of_lt (Heap.lt_size e)) e
 exact h pins _ σ H xs _ Q I1 (by simpa using rv) hw
def gSub (to ti : TE) (t : TSet) : TG := fun v σ H Q => to σ H fun o H1 => ti σ H1 fun i H2 => t o i v H2 fun H3 => Q σ H3
theorem pg_sub {o i : Expr} {to ti : TE} {t : TSet} (ho : PE X o to) (hi : PE X i ti) (hs : PSet X t)
  (ha : ∀ v, assign (.Subscript o i pos) X.env v = (do
   let ov ← holding [v] (eval o X.env)
   let iv ← holding [v, ov] (eval i X.env)
   standAt pos
   holding [v, ov, iv] (setItem ov iv v)
   release [v, ov, iv] []) := by intro _; rfl) : PG X (.Subscript o i pos) (gSub to ti t) := by
 intro pins s σ H v u Q I r h
 rw [ha]
 refine wpAny_bind (wpAny_holding (thn (ho pins s σ H _ I h) fun ov s1 ⟨x, H1, I1, r1, q1⟩ => ?_))
 refine wpAny_bind (wpAny_holding (thn (hi pins s1 σ H1 _ I1 q1) fun iv s2 ⟨y, H2, I2, r2, q2⟩ => ?_))
 refine wpAny_bind (wpAny_standAt (wpAny_bind (wpAny_holding (thn (hs pins s2 σ H2 x y v ov iv u _ I2 r1 r2 r q2) fun _ s3 ⟨H3, I3, q3⟩ => ?_))))
 exact wpAny_release ⟨σ, H3, I3, q3⟩
def tAsg (te : TE) (g : TG) : TS := fun D σ H => te σ H fun x H1 => g x σ H1 D.nx
theorem ps_asg {tg e : Expr} {te : TE} {g : TG} (he : PE X e te) (hg : PG X tg g) (hs : swapsWithSole [tg] e pos.line X.env = pure false := by rfl) (hw : swappedStores [tg] e X.env = pure none := by rfl)
  (h1 : (assignEach [tg] X.env).map (·.2) = [assign tg X.env] := by rfl) : PS X (.Assign [tg] e pos) (tAsg te g) := by
 intro pins s σ H D I h
 refine wpAny_Assign_stores (thn (he pins s σ H _ I h) fun v s1 ⟨x, H1, I1, r1, q1⟩ => ?_) hs hw
 rw [h1]
 exact thn (hg pins s1 σ H1 x v _ I1 r1 q1) fun _ s2 q => q
theorem ps_set {i : Nat} {x : Str} {e : Expr} {te : TE} {pos' : Pos} (hN : X.N.Nodup) (hi : X.N[i]? = some x) (hx : Loc X.env.scope x) (he : PE X e te) (hs : swapsWith e (some (.Name x pos')) pos.line X.env = pure false := by rfl) (hf : X.fn x = true ∨ X.env.scope.names.lookup x = some .local := by first | exact .inl rfl | exact .inr rfl | assumption) :
  PS X (.Assign [.Name x pos'] e pos) (tAsg te (gName i)) := by
 intro pins s σ H D I h
 refine wpAny_Assign_Name (thn (he pins s σ H _ I h) fun v s1 ⟨y, H1, I1, r1, q1⟩ => ?_) hs
 exact store_ok I1 hN hi hx r1 (fun s2 I2 => ⟨_, H1, I2, q1⟩) hf
end
section
variable {X : Cx} {pos : Pos}
end
structure It where
 go : Nat → Hp → Prop
 yld : Nat → Hp → V → Hp → Prop
 stop : Nat → Hp → Prop
def FpOk (X : Cx) (pins : List (Addr × Obj)) (H : Hp) (b : Addr) : Prop :=
 H b = none ∧ b ≠ X.env.locals ∧ b ∉ X.fs ∧ (b ∈ X.ex ∨ X.s₀.heap.objs.size ≤ b) ∧ (∀ x c, X.env.cells.lookup x = some c → c ≠ b) ∧ ∀ p ∈ X.pn ++ pins, p.1 ≠ b
theorem Inv.fpOk {X : Cx} {pins : List (Addr × Obj)} {σ : St} {H H' : Hp} {s : Shared} {b : Addr} (I : Inv X pins σ H s) (hb : s.heap.objs.size ≤ b) (hn : H' b = none) : FpOk X pins H' b := by
 refine ⟨hn, Nat.ne_of_gt (Nat.lt_of_lt_of_le I.lt hb), I.nofs hb, .inr (Nat.le_trans I.sz hb), fun x c e z => ?_, fun p hp z => ?_⟩
 ·obtain ⟨v, q⟩ := I.cell x c e
  exact absurd (Nat.lt_of_lt_of_le q.lt (by rw [z]; exact hb)) (Nat.lt_irrefl _)
 ·exact absurd (Nat.lt_of_lt_of_le (Heap.lt_size (I.pin p hp).1) (by rw [z]; exact hb)) (Nat.lt_irrefl _)
structure Turn (P : Program) (w : World) (K : PySem.W.Frag) (tg : Expr) (J : It) (fp : List Addr) (it : Addr) (tn : Nat → Heap → Prop) : Prop where
 mem : it ∈ fp
 obj : ∀ i h, tn i h → ∀ b ∈ fp, ∃ o, h.get? b = some o ∧ ∀ v, o.data ≠ .cell v
 keep : ∀ i h h', tn i h → (∀ b ∈ fp, ∀ o, h.get? b = some o → h'.get? b = some o) → tn i h'
 item : ∀ (X : Cx), X.prog = P → X.w = w → X.K = K → X.calm = true → ∀ (i : Nat) (pins : List (Addr × Obj)) (s : Shared) (σ : St) (H : Hp) (E : Value → Shared → Prop), Inv X pins σ H s → (∀ b ∈ fp, FpOk X pins H b) → tn i s.heap → J.go i H →
  wpAny (model P w) X.A (pyNext (.ref it)) (fun r s1 => ∃ u, r = some u ∧
   wpAny (model P w) X.A (letOwnedTupleGo tg (.ref it) u) (fun _ s2 => ∃ x H', Inv X pins σ H' s2 ∧ RelV x u ∧ J.yld i H x H' ∧ tn (i + 1) s2.heap ∧ ∀ b ∈ fp, H' b = none) E s1) E s
 done : ∀ (X : Cx), X.prog = P → X.w = w → X.K = K → X.calm = true → ∀ (i : Nat) (pins : List (Addr × Obj)) (s : Shared) (σ : St) (H : Hp) (E : Value → Shared → Prop), Inv X pins σ H s → (∀ b ∈ fp, FpOk X pins H b) → tn i s.heap → J.stop i H →
  wpAny (model P w) X.A (pyNext (.ref it)) (fun r s1 => r = none ∧ Inv X pins σ H s1) E s
 self : ∀ (A : Around) (i : Nat) (s : Shared) (Q : Value → Shared → Prop) (E : Value → Shared → Prop), tn i s.heap → Q (.ref it) s → wpAny (model P w) A (pyIter (.ref it)) Q E s
abbrev TI := St → Hp → (It → Hp → Prop) → Prop
def PIE (X : Cx) (pins : List (Addr × Obj)) (σ : St) (tg : Expr) (R : It → Hp → Prop) (itv : Value) (s2 : Shared) : Prop :=
 ∃ (it : Addr) (fp : List Addr) (tn : Nat → Heap → Prop) (J : It) (H' : Hp), itv = .ref it ∧ Inv X pins σ H' s2 ∧ Turn X.prog X.w X.K tg J fp it tn ∧ tn 0 s2.heap ∧ (∀ b ∈ fp, FpOk X pins H' b) ∧ R J H'
def PI (X : Cx) (tg iter : Expr) (wi : TI) : Prop :=
 ∀ (pins : List (Addr × Obj)) (s : Shared) (σ : St) (H : Hp) (R : It → Hp → Prop), Inv X pins σ H s → wi σ H R →
  wpAny (model X.prog X.w) X.A (eval iter X.env) (fun v s1 => wpAny (model X.prog X.w) X.A (pyIter v) (PIE X pins σ tg R) X.xe s1) X.xe s
theorem go_of {M : Model} {A : Around} {E : Value → Shared → Prop} {s : Shared} {tg : Expr} {it : Addr} {u : Value} {o : Obj} {n : String} {vs : Array Value} {Q : Unit → Shared → Prop} (ho : s.heap.get? it = some o) (hc : o.cls = .type n) (hd : o.data = .fields vs)
  (hn : ["enumerate", "zip", "dict_itemiterator", "dict_reverseitemiterator", "odict_iterator", "itertools.zip_longest", "itertools.pairwise"].contains n = false) (hQ : Q () s) : wpAny M A (letOwnedTupleGo tg (.ref it) u) Q E s := by
 unfold letOwnedTupleGo
 cases tg <;> first
  | exact wpAny_pure hQ
  | (cases u <;> first
    | exact wpAny_pure hQ
    | (refine wpAny_bind (wpAny_load ho ?_)
       rw [hc, hd]
       show wpAny M A (if (["enumerate", "zip", "dict_itemiterator", "dict_reverseitemiterator", "odict_iterator", "itertools.zip_longest", "itertools.pairwise"].contains n && vs[0]? == some (rawInt _)) = true then _ else _) Q E s
       rw [if_neg (by intro h; rw [hn, Bool.false_and] at h; cases h)]
       exact wpAny_pure hQ))
def Itl (K : PySem.W.Frag) (a : Addr) : It :=
 ⟨fun i H => ∃ xs x, SqL K H a xs ∧ xs[i]? = some x, fun i H x H' => H' = H ∧ ∀ xs, SqL K H a xs → xs[i]? = some x, fun i H => ∃ xs, SqL K H a xs ∧ xs.length ≤ i⟩
def Itr (lo : Int) (n : Nat) : It := ⟨fun i _ => i < n, fun i H x H' => H' = H ∧ x = .int (lo + i), fun i _ => n ≤ i⟩
theorem turn_list {P : Program} {w : World} {K : PySem.W.Frag} {tg : Expr} (a it : Addr) : Turn P w K tg (Itl K a) [it] it (fun i h => h.IsListIter it a i) where
 mem := by simp
 obj := fun i h st b hb => by
  have e : b = it := by simpa using hb
  subst e
  obtain ⟨o, e, c, d⟩ := st
  exact ⟨o, e, fun v z => by rw [d] at z; cases z⟩
 keep := fun i h h' st k => st.at fun o e => k it (by simp) o e
 item := by
  intro X hP hw hK hc i pins s σ H E I hf st hg
  subst hP hw hK
  obtain ⟨xs, x, hq, hx⟩ := hg
  obtain ⟨its, rv, p, hz⟩ := I.list hq
  obtain ⟨u, hu, ru⟩ := rv.get hx
  obtain ⟨f0, f1, f2, f3, f4, f5⟩ := hf it (by simp)
  refine wpAny_pyNext_list_item st p.isList (x := u) (by simpa using hu) fun h' st' sb => ?_
  have I1 : Inv X pins σ H { s with heap := h' } := I.turned (t' := s.toks) (fun b o hb e => (sb.2 b hb).trans e) f0 f1 f3 f4 f5
  obtain ⟨o, e, c, d⟩ := id st'
  exact ⟨u, rfl, go_of (s := { s with heap := h' }) e c d (by decide) ⟨x, H, I1, ru, ⟨rfl, fun ys hy => by rw [I.list_inj hy hq]; exact hx⟩, st', fun b hb => (hf b hb).1⟩⟩
 done := by
  intro X hP hw hK hc i pins s σ H E I hf st hg
  subst hP hw hK
  obtain ⟨xs, hq, hx⟩ := hg
  obtain ⟨its, rv, p, hz⟩ := I.list hq
  obtain ⟨f0, f1, f2, f3, f4, f5⟩ := hf it (by simp)
  have hl := rv.length
  exact wpAny_pyNext_list_end (I.ok.hd hc) st p.isList (by simp; omega) fun h' eb => ⟨rfl, I.turned (t' := s.toks) (fun b o hb e => eb b o hb e) f0 f1 f3 f4 f5⟩
 self := fun _ _ _ _ _ st h => wpAny_pyIter_listiter st h
theorem turn_range {P : Program} {w : World} {K : PySem.W.Frag} {tg : Expr} (it : Addr) (lo : Int) (n : Nat) : Turn P w K tg (Itr lo n) [it] it (fun i h => IsRangeIter h it (lo + (i : Nat) * 1) ((n : Int) - (i : Nat)) 1) where
 mem := by simp
 obj := fun i h st b hb => by
  have e : b = it := by simpa using hb
  subst e
  exact ⟨_, st, fun v z => by
   have z' : Data.fields _ = Data.cell v := z
   cases z'⟩
 keep := fun i h h' st k => k it (by simp) _ st
 item := by
  intro X hP hw hK hc i pins s σ H E I hf st hg
  subst hP hw hK
  obtain ⟨f0, f1, f2, f3, f4, f5⟩ := hf it (by simp)
  have W := Walks.range (prog := X.prog) (w := X.w) (I.ok.hd hc) it lo 1 n
  refine W.item i s _ _ hg st fun v h' tk hv st' kk => ?_
  obtain ⟨t, rfl⟩ := hv
  have I1 : Inv X pins σ H { s with heap := h', toks := tk } := I.turned (fun b o hb e => kk b o (by simpa using hb) e) f0 f1 f3 f4 f5
  refine ⟨_, rfl, go_of (s := { s with heap := h', toks := tk }) (n := "range_iterator") st' rfl rfl (by decide) ⟨.int (lo + i), H, I1, ⟨t, ?_⟩, ⟨rfl, rfl⟩, st', fun b hb => (hf b hb).1⟩⟩
  rw [Int.mul_one]
 done := by
  intro X hP hw hK hc i pins s σ H E I hf st hg
  subst hP hw hK
  obtain ⟨f0, f1, f2, f3, f4, f5⟩ := hf it (by simp)
  exact wpAny_pyNext_range_end (I.ok.hd hc) st (by have : n ≤ i := hg; omega) fun h' eb => ⟨rfl, I.turned (t' := s.toks) (fun b o hb e => eb b o hb e) f0 f1 f3 f4 f5⟩
 self := fun _ _ _ _ _ st h => wpAny_pyIter_rangeiter st h
end L2
namespace L2
open PySem PySem.Spec PyProof.Rows
section
variable {X : Cx} {tg : Expr}
def iList (K : PySem.W.Frag) (tl : TE) : TI := fun σ H R => tl σ H fun x H1 => ∃ a, x = .ref a ∧ (∃ xs, SqL K H1 a xs) ∧ R (Itl K a) H1
theorem pi_list {l : Expr} {tl : TE} (hl : PE X l tl) : PI X tg l (iList X.K tl) := by
 intro pins s σ H R I h
 refine thn (hl pins s σ H _ I h) fun v s1 ⟨x, H1, I1, r1, q1⟩ => ?_
 obtain ⟨a, e, ⟨xs, hq⟩, q⟩ := q1
 subst e
 cases r1
 obtain ⟨its, rv, p, hz⟩ := I1.list hq
 refine wpAny_pyIter_list p.isList ?_
 refine ⟨s1.heap.objs.size, [s1.heap.objs.size], _, _, H1, rfl, I1.kept (t' := s1.toks) fun b o e => Heap.get?_push_of_some _ e, turn_list a _, ⟨_, Heap.get?_push_size _ rfl, rfl, rfl⟩, fun b hb => ?_, q⟩
 have e : b = s1.heap.objs.size := by simpa using hb
 subst e
 exact I1.fpOk (Nat.le_refl _) (I1.hok.fresh (Nat.le_refl _))
theorem range_it {pins : List (Addr × Obj)} {σ : St} {H : Hp} {s : Shared} {R : It → Hp → Prop} {E : Value → Shared → Prop} {lo hi : Int} {t u v : Tok} {tk : Nat} (I : Inv X pins σ H s) (h1 : -(2 ^ 62) ≤ lo) (h2 : lo < 2 ^ 62) (h3 : -(2 ^ 62) ≤ hi) (h4 : hi < 2 ^ 62)
  (q : R (Itr lo (hi - lo).toNat) H) : wpAny (model X.prog X.w) X.A (pyIter (.ref s.heap.objs.size)) (PIE X pins σ tg R) E { s with heap := s.heap.push { cls := .type "range", data := .fields #[.int lo t, .int hi u, .int 1 v] }, toks := tk } := by
 refine wpAny_pyIter_range (IsRange.new ..) (small_one h1 h2 h3 h4) ?_
 have I1 : Inv X pins σ H { s with heap := s.heap.push { cls := .type "range", data := .fields #[.int lo t, .int hi u, .int 1 v] }, toks := tk } := I.kept fun b o e => Heap.get?_push_of_some _ e
 refine ⟨(s.heap.push { cls := .type "range", data := .fields #[.int lo t, .int hi u, .int 1 v] }).objs.size, [(s.heap.push { cls := .type "range", data := .fields #[.int lo t, .int hi u, .int 1 v] }).objs.size], _, _, H, rfl,
  I1.kept (t' := tk) fun b o e => Heap.get?_push_of_some _ e, turn_range _ lo (hi - lo).toNat, ?_, fun b hb => ?_, q⟩
 ·have e1 : lo + ((0 : Nat) : Int) * 1 = lo := by simp
  have e2 : (((hi - lo).toNat : Nat) : Int) - ((0 : Nat) : Int) = Builtin.Range.rangeSize lo hi 1 := by rw [rangeSize_one]; split <;> omega
  show IsRangeIter _ _ (lo + ((0 : Nat) : Int) * 1) ((((hi - lo).toNat : Nat) : Int) - ((0 : Nat) : Int)) 1
  rw [e1, e2]
  exact Heap.get?_push_size _ rfl
 ·have e : b = (s.heap.push { cls := .type "range", data := .fields #[.int lo t, .int hi u, .int 1 v] }).objs.size := by simpa using hb
  subst e
  exact I1.fpOk (Nat.le_refl _) (I1.hok.fresh (Nat.le_refl _))
def iRng1 (ta : TA) : TI := fun σ H R => ta σ H fun vs H1 => ∃ j : Int, vs = [.int j] ∧ -(2 ^ 62) ≤ j ∧ j < 2 ^ 62 ∧ R (Itr 0 j.toNat) H1
def iRng2 (ta : TA) : TI := fun σ H R => ta σ H fun vs H1 => ∃ i j : Int, vs = [.int i, .int j] ∧ (-(2 ^ 62) ≤ i ∧ i < 2 ^ 62 ∧ -(2 ^ 62) ≤ j ∧ j < 2 ^ 62) ∧ R (Itr i (j - i).toNat) H1
theorem pi_range1 {a : Expr} {ta : TA} {p pos : Pos} (hg : Gl X "range") (hm : X.mg "range" = none) (ha : PA X [a] ta) (hs : starEach [a] X.env = [(false, eval a X.env)] := by rfl) : PI X tg (.Call (.Name "range" p) [a] [] pos) (iRng1 ta) := by
 intro pins s σ H R I h
 refine Call_ (ld_blt I hg hm boot_range (PyProof.Rows.callWith_type1 (thn (ha pos pins s σ H _ I h) fun us s1 ⟨vs, H1, I1, r1, q1⟩ => ?_) hs rfl))
 obtain ⟨j, e, q1, q2, q⟩ := q1
 subst e
 cases r1 with
 | cons r rr =>
  cases rr
  obtain ⟨t, rfl⟩ := r
  exact call_range_1 (range_it I1 (by omega) (by omega) q1 q2 (by simpa using q))
theorem pi_range2 {a b : Expr} {ta : TA} {p pos : Pos} (hg : Gl X "range") (hm : X.mg "range" = none) (ha : PA X [a, b] ta) (hs : starEach [a, b] X.env = [(false, eval a X.env), (false, eval b X.env)] := by rfl) (hs2 : starEach [b] X.env = [(false, eval b X.env)] := by rfl) :
  PI X tg (.Call (.Name "range" p) [a, b] [] pos) (iRng2 ta) := by
 intro pins s σ H R I h
 refine Call_ (ld_blt I hg hm boot_range (PyProof.Rows.callWith_type1 (thn (ha pos pins s σ H _ I h) fun us s1 ⟨vs, H1, I1, r1, q1⟩ => ?_) (by rw [hs, hs2]) (by rw [hs2]; rfl)))
 obtain ⟨i, j, e, ⟨q1, q2, q3, q4⟩, q⟩ := q1
 subst e
 cases r1 with
 | cons r rr =>
  cases rr with
  | cons r' rr =>
   cases rr
   obtain ⟨t, rfl⟩ := r
   obtain ⟨t', rfl⟩ := r'
   exact call_range_2 (range_it I1 q1 q2 q3 q4 q)
def tFor (wi : TI) (g : TG) (tb : TS) : TS := fun D σ H => wi σ H fun J H1 => ∃ W : Nat → Nat → St → Hp → Prop, (∃ m, W 0 m σ H1) ∧ ∀ i m σ H, W i m σ H →
 (J.stop i H ∧ D.nx σ H) ∨ (J.go i H ∧ ∃ N : St → Hp → Prop, (∀ σ' H', N σ' H' → ∃ m', m' < m ∧ W (i + 1) m' σ' H') ∧ ∀ x H', J.yld i H x H' → g x σ H' fun σ2 H2 => tb { D with nx := N, ct := N, bk := D.nx } σ2 H2)
def pinsAt (fp : List Addr) (h : Heap) : List (Addr × Obj) := fp.filterMap fun b => (h.get? b).map fun o => (b, o)
theorem mem_pinsAt {fp : List Addr} {h : Heap} {b : Addr} {o : Obj} (hb : b ∈ fp) (e : h.get? b = some o) : (b, o) ∈ pinsAt fp h := List.mem_filterMap.mpr ⟨b, hb, by rw [e]; rfl⟩
theorem of_pinsAt {fp : List Addr} {h : Heap} {p : Addr × Obj} (hp : p ∈ pinsAt fp h) : p.1 ∈ fp ∧ h.get? p.1 = some p.2 := by
 obtain ⟨b, hb, e⟩ := List.mem_filterMap.mp hp
 cases q : h.get? b with
 | none => rw [q] at e; cases e
 | some o =>
  rw [q] at e
  have e' : (b, o) = p := Option.some.inj e
  subst e'
  exact ⟨hb, q⟩
theorem Inv.pinned {pins : List (Addr × Obj)} {σ : St} {H : Hp} {s : Shared} {fp : List Addr} (I : Inv X pins σ H s) (hf : ∀ b ∈ fp, FpOk X pins H b) (ho : ∀ b ∈ fp, ∃ o, s.heap.get? b = some o ∧ ∀ v, o.data ≠ .cell v) : Inv X (pins ++ pinsAt fp s.heap) σ H s :=
 I.pins_of fun p hp => (List.mem_append.mp hp).elim (fun z => I.pin p (List.mem_append_right _ z)) fun z => by
  obtain ⟨hb, e⟩ := of_pinsAt z
  obtain ⟨f0, f1, f2, _⟩ := hf p.1 hb
  obtain ⟨o, e', d⟩ := ho p.1 hb
  rw [e] at e'; cases e'
  exact ⟨e, f0, f1, f2, d⟩
theorem Inv.unpinned {pins pl : List (Addr × Obj)} {σ : St} {H : Hp} {s : Shared} (I : Inv X (pins ++ pl) σ H s) : Inv X pins σ H s := I.pins_of fun p hp => I.pin p (List.mem_append_right _ (List.mem_append_left _ hp))
theorem ps_for {iter : Expr} {body : List Stmt} {wi : TI} {g : TG} {tb : TS} {pos : Pos} (hp : PassesOwn (model X.prog X.w) X.A X.env X.xe) (hc : X.calm = true) (hi : PI X tg iter wi) (hg : PG X tg g) (hb : PSs X body tb)
  (hs : ∀ x, foldedSetIterable iter X.env x = pure x := by intro _; rfl) : PS X (.For tg iter body [] pos) (tFor wi g tb) := by
 intro pins s σ H D I h
 refine wpAny_For (thn (hi pins s σ H _ I h) fun v s1 h1 => thn h1 fun itv s2 h2 => ?_) hs
 obtain ⟨it, fp, tn, J, H2, e, I2, T, st2, f2, W, ⟨m0, w0⟩, turn⟩ := h2
 subst e
 have stat : ∀ {H' : Hp}, (∀ b ∈ fp, H' b = none) → ∀ b ∈ fp, FpOk X pins H' b := fun hn b hb => ⟨hn b hb, (f2 b hb).2⟩
 refine codeAny_forLoop_any (fun n s' => ∃ i σ' H', Inv X pins σ' H' s' ∧ tn i s'.heap ∧ (∀ b ∈ fp, H' b = none) ∧ W i n σ' H') ?_ m0 ⟨0, σ, H2, I2, st2, fun b hb => (f2 b hb).1, w0⟩
 rintro n s3 ⟨i, σ3, H3, I3, st3, fr3, w3⟩
 rcases turn i n σ3 H3 w3 with ⟨stop, qn⟩ | ⟨go, N, hN, step⟩
 ·refine wpAny_passesOwn hp (thn (T.done X rfl rfl rfl hc i pins s3 σ3 H3 X.xe I3 (stat fr3) st3 stop) fun r s4 ⟨hr, I4⟩ => ?_)
  subst hr
  exact wpAny_execs_nil ⟨σ3, H3, I4, qn⟩
 ·refine wpAny_passesOwn hp (thn (T.item X rfl rfl rfl hc i pins s3 σ3 H3 X.xe I3 (stat fr3) st3 go) fun r s4 ⟨u, hr, h4⟩ => ?_)
  subst hr
  refine wpAny_passesOwn hp (thn h4 fun _ s5 ⟨x, H5, I5, r5, y5, st5, fr5⟩ => ?_)
  have I5' := I5.pinned (stat fr5) (T.obj _ _ st5)
  refine wpAny_passesOwn hp (thn (hg _ s5 σ3 H5 x u _ I5' r5 (step x H5 y5)) fun _ s6 ⟨σ6, H6, I6, q6⟩ => ?_)
  refine wpAny_passesOwn hp (thn (hb _ s6 σ6 H6 _ I6 q6) fun f s7 q7 => ?_)
  have again : ∀ {σ7 : St} {H7 : Hp}, Inv X (pins ++ pinsAt fp s5.heap) σ7 H7 s7 → N σ7 H7 → ∃ m, m < n ∧ ∃ i σ' H', Inv X pins σ' H' s7 ∧ tn i s7.heap ∧ (∀ b ∈ fp, H' b = none) ∧ W i m σ' H' := fun {σ7 H7} I7 n7 => by
   obtain ⟨m', hm, w7⟩ := hN σ7 H7 n7
   refine ⟨m', hm, i + 1, σ7, H7, I7.unpinned, T.keep _ _ _ st5 fun b hb o e => (I7.pin (b, o) (List.mem_append_right _ (List.mem_append_right _ (mem_pinsAt hb e)))).1, fun b hb => ?_, w7⟩
   obtain ⟨o, e, d⟩ := T.obj _ _ st5 b hb
   exact (I7.pin (b, o) (List.mem_append_right _ (List.mem_append_right _ (mem_pinsAt hb e)))).2.1
  cases f with
  | next => obtain ⟨σ7, H7, I7, n7⟩ := q7; exact again I7 n7
  | cont => obtain ⟨σ7, H7, I7, n7⟩ := q7; exact again I7 n7
  | brk => obtain ⟨σ7, H7, I7, q7⟩ := q7; exact ⟨σ7, H7, I7.unpinned, q7⟩
  | ret v => obtain ⟨x7, σ7, H7, I7, r7, q7⟩ := q7; exact ⟨x7, σ7, H7, I7.unpinned, r7, q7⟩
end
theorem for_list {K : PySem.W.Frag} {a : Addr} {xs : List V} {g : TG} {tb : TS} {D : Ends} {σ : St} {H : Hp} (Pv : Nat → St → Hp → Prop) (h0 : Pv 0 σ H) (hl : ∀ i σ H, i ≤ xs.length → Pv i σ H → SqL K H a xs)
  (hs : ∀ i x σ H, xs[i]? = some x → Pv i σ H → g x σ H fun σ2 H2 => tb { D with nx := Pv (i + 1), ct := Pv (i + 1), bk := D.nx } σ2 H2) (hd : ∀ σ H, Pv xs.length σ H → D.nx σ H) :
  ∃ W : Nat → Nat → St → Hp → Prop, (∃ m, W 0 m σ H) ∧ ∀ i m σ H, W i m σ H →
   ((Itl K a).stop i H ∧ D.nx σ H) ∨ ((Itl K a).go i H ∧ ∃ N : St → Hp → Prop, (∀ σ' H', N σ' H' → ∃ m', m' < m ∧ W (i + 1) m' σ' H') ∧ ∀ x H', (Itl K a).yld i H x H' → g x σ H' fun σ2 H2 => tb { D with nx := N, ct := N, bk := D.nx } σ2 H2) := by
 refine ⟨fun i m σ H => m = xs.length - i ∧ i ≤ xs.length ∧ Pv i σ H, ⟨xs.length, by simp, Nat.zero_le _, h0⟩, ?_⟩
 rintro i m σ H ⟨rfl, hi, p⟩
 have q := hl i σ H hi p
 by_cases hlt : i < xs.length
 ·refine .inr ⟨⟨xs, xs[i], q, by simp [hlt]⟩, Pv (i + 1), fun σ' H' p' => ⟨xs.length - (i + 1), by omega, rfl, hlt, p'⟩, fun x H' y => ?_⟩
  obtain ⟨e, y⟩ := y
  subst e
  exact hs i x σ _ (y xs q) p
 ·have e : i = xs.length := by omega
  subst e
  exact .inl ⟨⟨xs, q, Nat.le_refl _⟩, hd σ H p⟩
theorem for_range {lo : Int} {n : Nat} {g : TG} {tb : TS} {D : Ends} {σ : St} {H : Hp} (Pv : Nat → St → Hp → Prop) (h0 : Pv 0 σ H)
  (hs : ∀ i σ H, i < n → Pv i σ H → g (.int (lo + i)) σ H fun σ2 H2 => tb { D with nx := Pv (i + 1), ct := Pv (i + 1), bk := D.nx } σ2 H2) (hd : ∀ σ H, Pv n σ H → D.nx σ H) :
  ∃ W : Nat → Nat → St → Hp → Prop, (∃ m, W 0 m σ H) ∧ ∀ i m σ H, W i m σ H →
   ((Itr lo n).stop i H ∧ D.nx σ H) ∨ ((Itr lo n).go i H ∧ ∃ N : St → Hp → Prop, (∀ σ' H', N σ' H' → ∃ m', m' < m ∧ W (i + 1) m' σ' H') ∧ ∀ x H', (Itr lo n).yld i H x H' → g x σ H' fun σ2 H2 => tb { D with nx := N, ct := N, bk := D.nx } σ2 H2) := by
 refine ⟨fun i m σ H => m = n - i ∧ i ≤ n ∧ Pv i σ H, ⟨n, by simp, Nat.zero_le _, h0⟩, ?_⟩
 rintro i m σ H ⟨rfl, hi, p⟩
 by_cases hlt : i < n
 ·refine .inr ⟨hlt, Pv (i + 1), fun σ' H' p' => ⟨n - (i + 1), by omega, rfl, hlt, p'⟩, fun x H' y => ?_⟩
  obtain ⟨e, y⟩ := y
  subst e y
  exact hs i σ _ hlt p
 ·have e : i = n := by omega
  subst e
  exact .inl ⟨Nat.le_refl _, hd σ H p⟩
end L2
namespace L2
open PySem PySem.Spec PyProof.Rows
abbrev R2 := V → V → Hp → VK → Prop
def OpR (X : Cx) (f : Value → Value → Sem Value) (r : R2) : Prop :=
 ∀ (pins : List (Addr × Obj)) (s : Shared) (σ : St) (H : Hp) (x y : V) (v u : Value) (Q : VK), Inv X pins σ H s → RelV x v → RelV y u → r x y H Q →
  wpAny (model X.prog X.w) X.A (f v u) (EP X pins σ Q) X.xe s
def UnR (X : Cx) (f : Value → Sem Value) (r : V → Hp → VK → Prop) : Prop :=
 ∀ (pins : List (Addr × Obj)) (s : Shared) (σ : St) (H : Hp) (x : V) (v : Value) (Q : VK), Inv X pins σ H s → RelV x v → r x H Q →
  wpAny (model X.prog X.w) X.A (f v) (EP X pins σ Q) X.xe s
def CallR (X : Cx) (f : Value) (r : List V → Hp → VK → Prop) : Prop :=
 ∀ (pins : List (Addr × Obj)) (s : Shared) (σ : St) (H : Hp) (xs : List V) (us : List Value) (Q : VK), Inv X pins σ H s → Vals xs us → r xs H Q →
  wpAny (model X.prog X.w) X.A (call f us) (EP X pins σ Q) X.xe s
def tOp (r : R2) (ta tb : TE) : TE := fun σ H Q => ta σ H fun x H1 => tb σ H1 fun y H2 => r x y H2 Q
def tUn (r : V → Hp → VK → Prop) (ta : TE) : TE := fun σ H Q => ta σ H fun x H1 => r x H1 Q
def rI (C : Int → Int → Prop) (g : Int → Int → V) : R2 := fun x y H Q => ∃ i j, x = .int i ∧ y = .int j ∧ C i j ∧ Q (g i j) H
def rI0 (g : Int → Int → V) : R2 := fun x y H Q => ∃ i j, x = .int i ∧ y = .int j ∧ Q (g i j) H
def rU (g : Int → V) : V → Hp → VK → Prop := fun x H Q => ∃ i, x = .int i ∧ Q (g i) H
section
variable {X : Cx} {a b c : Expr} {ta tb tc : TE} {pos : Pos}
theorem binT (ha : PE X a ta) (hb : PE X b tb) {pins : List (Addr × Obj)} {s : Shared} {σ : St} {H : Hp} {R : V → V → Hp → Prop} (I : Inv X pins σ H s)
  (h : ta σ H fun x H1 => tb σ H1 fun y H2 => R x y H2) {Q : Value → Shared → Prop} {f : Value → Value → Sem Value}
  (hf : ∀ v u s2 x y H2, Inv X pins σ H2 s2 → RelV x v → RelV y u → R x y H2 → wpAny (model X.prog X.w) X.A (f v u) Q X.xe s2) :
  wpAny (model X.prog X.w) X.A (eval a X.env) (fun v s₁ => wpAny (model X.prog X.w) X.A (eval b X.env) (fun u s₂ => wpAny (model X.prog X.w) X.A (f v u) Q X.xe s₂) X.xe s₁) X.xe s := by
 refine thn (ha pins s σ H _ I h) fun v s1 ⟨x, H1, I1, r1, q1⟩ => ?_
 refine thn (hb pins s1 σ H1 _ I1 q1) fun u s2 ⟨y, H2, I2, r2, q2⟩ => ?_
 exact hf v u s2 x y H2 I2 r1 r2 q2
theorem pe_op {op : Operator} {r : R2} (ho : OpR X (binaryOp op) r) (ha : PE X a ta) (hb : PE X b tb) : PE X (.BinOp a op b pos) (tOp r ta tb) := by
 intro pins s σ H Q I h
 exact wpAny_BinOp (binT ha hb I h fun v u s2 x y H2 I2 rx ry q => ho pins s2 σ H2 x y v u Q I2 rx ry q)
theorem pe_un {op : UnaryOp} {r : V → Hp → VK → Prop} (ho : UnR X (unaryOp op) r) (ha : PE X a ta) : PE X (.UnaryOp op a pos) (tUn r ta) := by
 intro pins s σ H Q I h
 exact UnaryOp_ (thn (ha pins s σ H _ I h) fun v s1 ⟨x, H1, I1, r1, q1⟩ => ho pins s1 σ H1 x v Q I1 r1 q1)
theorem opI {f : Value → Value → Sem Value} {C : Int → Int → Prop} {g : Int → Int → Int}
  (rule : ∀ (i j : Int) (t u : Tok) (s : Shared) (Q : Value → Shared → Prop) (E : Value → Shared → Prop), C i j → Q (.int (g i j) s.toks) { s with toks := s.toks + 1 } → wpAny (model X.prog X.w) X.A (f (.int i t) (.int j u)) Q E s) :
  OpR X f (rI C fun i j => .int (g i j)) := by
 intro pins s σ H x y v u Q I rx ry h
 obtain ⟨i, j, rfl, rfl, hc, q⟩ := h
 obtain ⟨t, rfl⟩ := rx
 obtain ⟨t', rfl⟩ := ry
 exact rule i j t t' s _ _ hc ⟨.int (g i j), H, I.tok _, ⟨_, rfl⟩, q⟩
theorem opI0 {f : Value → Value → Sem Value} {g : Int → Int → Int}
  (rule : ∀ (i j : Int) (t u : Tok) (s : Shared) (Q : Value → Shared → Prop) (E : Value → Shared → Prop), Q (.int (g i j) s.toks) { s with toks := s.toks + 1 } → wpAny (model X.prog X.w) X.A (f (.int i t) (.int j u)) Q E s) :
  OpR X f (rI0 fun i j => .int (g i j)) := by
 intro pins s σ H x y v u Q I rx ry h
 obtain ⟨i, j, rfl, rfl, q⟩ := h
 obtain ⟨t, rfl⟩ := rx
 obtain ⟨t', rfl⟩ := ry
 exact rule i j t t' s _ _ ⟨.int (g i j), H, I.tok _, ⟨_, rfl⟩, q⟩
theorem opB0 {f : Value → Value → Sem Value} {g : Int → Int → Bool}
  (rule : ∀ (i j : Int) (t u : Tok) (s : Shared) (Q : Value → Shared → Prop) (E : Value → Shared → Prop), Q (.bool (g i j)) s → wpAny (model X.prog X.w) X.A (f (.int i t) (.int j u)) Q E s) :
  OpR X f (rI0 fun i j => .bl (g i j)) := by
 intro pins s σ H x y v u Q I rx ry h
 obtain ⟨i, j, rfl, rfl, q⟩ := h
 obtain ⟨t, rfl⟩ := rx
 obtain ⟨t', rfl⟩ := ry
 exact rule i j t t' s _ _ ⟨.bl (g i j), H, I, rfl, q⟩
def CPow (i j : Int) : Prop := 0 ≤ j ∧ j ≤ 1000000 ∧ i.natAbs < 2 ^ 64
def CMul (i j : Int) : Prop := (-(2 ^ 64) < i ∧ i < 2 ^ 64) ∨ (-(2 ^ 64) < j ∧ j < 2 ^ 64)
theorem CMul.ok {i j : Int} (h : CMul i j) : IntMulOk i j := by
 rcases h with ⟨h1, h2⟩ | ⟨h1, h2⟩
 ·exact .of_left (intBits_le_64 h1 h2)
 ·exact .of_right (intBits_le_64 h1 h2)
theorem two_pow_nn (k : Nat) : (0 : Int) ≤ 2 ^ k := by
 rw [two_pow_cast]
 exact Int.natCast_nonneg _
theorem op_add : OpR X (binaryOp .Add) (rI0 fun i j => .int (i + j)) := opI0 fun _ _ _ _ _ _ _ q => add_int q
theorem op_sub : OpR X (binaryOp .Sub) (rI0 fun i j => .int (i - j)) := opI0 fun _ _ _ _ _ _ _ q => sub_int q
theorem op_mul : OpR X (binaryOp .Mult) (rI CMul fun i j => .int (i * j)) := opI fun _ _ _ _ _ _ _ hc q => mul_int q hc.ok
theorem op_mod : OpR X (binaryOp .Mod) (rI (fun _ j => 0 < j) fun i j => .int (i % j)) := opI fun i j _ _ _ _ _ hc q => by
 have h1 : (0 : Int) < j := hc
 exact mod_int' (by omega) (by rw [Int.fmod_eq_emod_of_nonneg i (by omega)]; exact q)
theorem op_pow : OpR X (binaryOp .Pow) (rI CPow fun i j => .int (i ^ j.toNat)) := opI fun _ _ _ _ _ _ _ hc q => pow_int_small hc.1 hc.2.1 hc.2.2 q
theorem op_shr : OpR X (binaryOp .RShift) (rI (fun _ j => 0 ≤ j) fun i j => .int (i / 2 ^ j.toNat)) := opI fun i j _ _ _ _ _ hc q =>
 rshift_int hc (by rw [Int.fdiv_eq_ediv_of_nonneg i (two_pow_nn _)]; exact q)
theorem op_and : OpR X (binaryOp .BitAnd) (rI0 fun i j => .int (Builtin.bitAnd i j)) := opI0 fun _ _ _ _ _ _ _ q => and_int q
theorem op_xor : OpR X (binaryOp .BitXor) (rI0 fun i j => .int (Builtin.bitXor i j)) := opI0 fun _ _ _ _ _ _ _ q => xor_int q
theorem unI {f : Value → Sem Value} {g : Int → Int}
  (rule : ∀ (i : Int) (t : Tok) (s : Shared) (Q : Value → Shared → Prop) (E : Value → Shared → Prop), Q (.int (g i) s.toks) { s with toks := s.toks + 1 } → wpAny (model X.prog X.w) X.A (f (.int i t)) Q E s) :
  UnR X f (rU fun i => .int (g i)) := by
 intro pins s σ H x v Q I rx h
 obtain ⟨i, rfl, q⟩ := h
 obtain ⟨t, rfl⟩ := rx
 exact rule i t s _ _ ⟨.int (g i), H, I.tok _, ⟨_, rfl⟩, q⟩
theorem un_neg : UnR X (unaryOp .USub) (rU fun i => .int (-i)) := unI fun _ _ _ _ _ q => neg_int q
end
def scal : V → V → Bool
 | .non, .non => true | .non, .int _ => true | .int _, .non => true | .non, .bl _ => true | .bl _, .non => true | .non, .str _ => true | .str _, .non => true
 | .int _, .int _ => true | .bl _, .bl _ => true | .str _, .str _ => true | .byt _, .byt _ => true
 | .int _, .str _ => true | .str _, .int _ => true | .bl _, .str _ => true | .str _, .bl _ => true
 | _, _ => false
def rEq : R2 := fun x y H Q => scal x y = true ∧ Q (.bl (decide (x = y))) H
def rNe : R2 := fun x y H Q => scal x y = true ∧ Q (.bl (!decide (x = y))) H
theorem dec_int {i j : Int} : decide (V.int i = V.int j) = (i == j) := by
 rw [Bool.eq_iff_iff]
 simp
theorem dec_bl {i j : Bool} : decide (V.bl i = V.bl j) = (i == j) := by
 rw [Bool.eq_iff_iff]
 simp
theorem dec_str {i j : Str} : decide (V.str i = V.str j) = (i == j) := by
 rw [Bool.eq_iff_iff]
 simp
theorem dec_byt {i j : Array UInt8} : decide (V.byt i = V.byt j) = (i.toList == j.toList) := by
 rw [Bool.eq_iff_iff]
 cases i
 cases j
 simp
section
variable {X : Cx} {a b c : Expr} {ta tb tc : TE} {pos : Pos}
theorem fin_bl {pins : List (Addr × Obj)} {σ : St} {H : Hp} {s : Shared} {Q : VK} {k k' : Bool} (I : Inv X pins σ H s) (q : Q (.bl k) H) (e : k = k') : EP X pins σ Q (.bool k') s := by
 subst e
 exact ⟨.bl k, H, I, rfl, q⟩
theorem op_eq : OpR X (compareOp .Eq) rEq := by
 intro pins s σ H x y v u Q I rx ry h
 obtain ⟨hs, q⟩ := h
 cases x with
 | non =>
  cases rx
  cases y with
  | non => cases ry; exact PySem.EqNone.eq_none_none (fin_bl I q (by simp))
  | bl j => cases ry; exact PySem.EqNone.eq_none_bool (fin_bl I q (by simp))
  | int j => obtain ⟨t', rfl⟩ := ry; exact PySem.EqNone.eq_none_int (fin_bl I q (by simp))
  | str j => obtain ⟨t', rfl⟩ := ry; exact PySem.EqNone.eq_none_str (fin_bl I q (by simp))
  | _ => exact absurd (show false = true from hs) Bool.false_ne_true
 | bl i =>
  cases rx
  cases y with
  | non => cases ry; exact PySem.EqNone.eq_bool_none (fin_bl I q (by simp))
  | bl j => cases ry; exact eq_bool (fin_bl I q dec_bl)
  | str j => obtain ⟨t', rfl⟩ := ry; exact PySem.EqMixed.eq_bool_str (fin_bl I q (by simp))
  | _ => exact absurd (show false = true from hs) Bool.false_ne_true
 | int i =>
  obtain ⟨t, rfl⟩ := rx
  cases y with
  | non => cases ry; exact PySem.EqNone.eq_int_none (fin_bl I q (by simp))
  | int j => obtain ⟨t', rfl⟩ := ry; exact eq_int (fin_bl I q dec_int)
  | str j => obtain ⟨t', rfl⟩ := ry; exact PySem.EqMixed.eq_int_str (fin_bl I q (by simp))
  | _ => exact absurd (show false = true from hs) Bool.false_ne_true
 | str i =>
  obtain ⟨t, rfl⟩ := rx
  cases y with
  | non => cases ry; exact PySem.EqNone.eq_str_none (fin_bl I q (by simp))
  | bl j => cases ry; exact PySem.EqMixed.eq_str_bool (fin_bl I q (by simp))
  | int j => obtain ⟨t', rfl⟩ := ry; exact PySem.EqMixed.eq_str_int (fin_bl I q (by simp))
  | str j => obtain ⟨t', rfl⟩ := ry; exact eq_str (fin_bl I q dec_str)
  | _ => exact absurd (show false = true from hs) Bool.false_ne_true
 | byt i =>
  obtain ⟨t, rfl⟩ := rx
  cases y with
  | byt j => obtain ⟨t', rfl⟩ := ry; exact PySem.W.eq_bytes (fin_bl I q dec_byt)
  | _ => exact absurd (show false = true from hs) Bool.false_ne_true
 | _ => cases y <;> exact absurd (show false = true from hs) Bool.false_ne_true
theorem op_ne : OpR X (compareOp .NotEq) rNe := by
 intro pins s σ H x y v u Q I rx ry h
 obtain ⟨hs, q⟩ := h
 cases x with
 | non =>
  cases rx
  cases y with
  | non => cases ry; exact PySem.EqNone.ne_none_none (fin_bl I q (by simp))
  | bl j => cases ry; exact PySem.EqNone.ne_none_bool (fin_bl I q (by simp))
  | int j => obtain ⟨t', rfl⟩ := ry; exact PySem.EqNone.ne_none_int (fin_bl I q (by simp))
  | str j => obtain ⟨t', rfl⟩ := ry; exact PySem.EqNone.ne_none_str (fin_bl I q (by simp))
  | _ => exact absurd (show false = true from hs) Bool.false_ne_true
 | bl i =>
  cases rx
  cases y with
  | non => cases ry; exact PySem.EqNone.ne_bool_none (fin_bl I q (by simp))
  | bl j => cases ry; exact ne_bool (fin_bl I q (congrArg not dec_bl))
  | str j => obtain ⟨t', rfl⟩ := ry; exact PySem.EqMixed.ne_bool_str (fin_bl I q (by simp))
  | _ => exact absurd (show false = true from hs) Bool.false_ne_true
 | int i =>
  obtain ⟨t, rfl⟩ := rx
  cases y with
  | non => cases ry; exact PySem.EqNone.ne_int_none (fin_bl I q (by simp))
  | int j => obtain ⟨t', rfl⟩ := ry; exact ne_int (fin_bl I q (congrArg not dec_int))
  | str j => obtain ⟨t', rfl⟩ := ry; exact PySem.EqMixed.ne_int_str (fin_bl I q (by simp))
  | _ => exact absurd (show false = true from hs) Bool.false_ne_true
 | str i =>
  obtain ⟨t, rfl⟩ := rx
  cases y with
  | non => cases ry; exact PySem.EqNone.ne_str_none (fin_bl I q (by simp))
  | bl j => cases ry; exact PySem.EqMixed.ne_str_bool (fin_bl I q (by simp))
  | int j => obtain ⟨t', rfl⟩ := ry; exact PySem.EqMixed.ne_str_int (fin_bl I q (by simp))
  | str j => obtain ⟨t', rfl⟩ := ry; exact ne_str (fin_bl I q (congrArg not dec_str))
  | _ => exact absurd (show false = true from hs) Bool.false_ne_true
 | byt i =>
  obtain ⟨t, rfl⟩ := rx
  cases y with
  | byt j => obtain ⟨t', rfl⟩ := ry; exact PySem.W.ne_bytes (fin_bl I q (congrArg not dec_byt))
  | _ => exact absurd (show false = true from hs) Bool.false_ne_true
 | _ => cases y <;> exact absurd (show false = true from hs) Bool.false_ne_true
theorem op_lt : OpR X (compareOp .Lt) (rI0 fun i j => .bl (decide (i < j))) := opB0 fun _ _ _ _ _ _ _ q => lt_int q
theorem op_le : OpR X (compareOp .LtE) (rI0 fun i j => .bl (decide (i ≤ j))) := opB0 fun _ _ _ _ _ _ _ q => le_int q
theorem op_gt : OpR X (compareOp .Gt) (rI0 fun i j => .bl (decide (j < i))) := opB0 fun _ _ _ _ _ _ _ q => gt_int q
theorem op_ge : OpR X (compareOp .GtE) (rI0 fun i j => .bl (decide (j ≤ i))) := opB0 fun _ _ _ _ _ _ _ q => ge_int q
theorem op_lt_str : OpR X (compareOp .Lt) (fun x y H Q => ∃ i j, x = .str i ∧ y = .str j ∧ Q (.bl (decide (i.cps.toList < j.cps.toList))) H) := by
 intro pins s σ H x y v u Q I rx ry h
 obtain ⟨i, j, rfl, rfl, q⟩ := h
 obtain ⟨t, rfl⟩ := rx
 obtain ⟨t', rfl⟩ := ry
 exact lt_str (fin_bl I q rfl)
theorem OpR.or {f : Value → Value → Sem Value} {r r' : R2} (h : OpR X f r) (h' : OpR X f r') : OpR X f (fun x y H Q => r x y H Q ∨ r' x y H Q) := by
 intro pins s σ H x y v u Q I rx ry q
 rcases q with q | q
 ·exact h pins s σ H x y v u Q I rx ry q
 ·exact h' pins s σ H x y v u Q I rx ry q
theorem nomark (b : Expr) {op : CmpOp} (h : op ≠ .In := by decide) (h2 : op ≠ .NotIn := by decide) : behindInMarks op b = false := by
 have e1 : (op == CmpOp.In) = false := by cases op <;> first | rfl | exact absurd rfl h
 have e2 : (op == CmpOp.NotIn) = false := by cases op <;> first | rfl | exact absurd rfl h2
 cases b <;> simp [behindInMarks, e1, e2]
theorem pe_cmpR {op : CmpOp} {r : R2} (ho : OpR X (compareOp op) r) (ha : PE X a ta) (hb : PE X b tb) (hm : behindInMarks op b = false) : PE X (.Compare a [op] [b] pos) (tOp r ta tb) := by
 intro pins s σ H Q I h
 exact wpAny_Compare1 (binT ha hb I h fun v u s2 x y H2 I2 rx ry q => ho pins s2 σ H2 x y v u Q I2 rx ry q) hm
def tTest (t : TE) : TT := fun σ H Q => t σ H fun x H' => ∃ k, x = .bl k ∧ Q k H'
theorem pt_cmpR {op : CmpOp} {r : R2} (ho : OpR X (compareOp op) r) (ha : PE X a ta) (hb : PE X b tb) (hm : behindInMarks op b = false) : PT X (.Compare a [op] [b] pos) (tTest (tOp r ta tb)) := by
 intro pins s σ H Q I h
 refine wpAny_isTrue_Compare1 (thn (ha pins s σ H _ I h) fun v s1 ⟨x, H1, I1, r1, q1⟩ => thn (hb pins s1 σ H1 _ I1 q1) fun u s2 ⟨y, H2, I2, r2, q2⟩ =>
  thn (ho pins s2 σ H2 x y v u _ I2 r1 r2 q2) fun c s3 ⟨z, H3, I3, r3, k, e, q3⟩ => ?_) hm
 subst e
 cases r3
 exact wpAny_truthy_bool ⟨H3, I3, q3⟩
theorem line63 : (sizeLine : Nat) < 2 ^ 63 := by rw [sizeLine_eq]; decide
theorem op_add_str : OpR X (binaryOp .Add) (fun x y H Q => ∃ i j, x = .str i ∧ y = .str j ∧ i.length + j.length ≤ sizeLine ∧ Q (.str (i ++ j)) H) := by
 intro pins s σ H x y v u Q I rx ry h
 obtain ⟨i, j, rfl, rfl, hz, q⟩ := h
 obtain ⟨t, rfl⟩ := rx
 obtain ⟨t', rfl⟩ := ry
 exact add_str (fun t' tk => ⟨.str (i ++ j), H, I.tok _, ⟨_, rfl⟩, q⟩) hz
theorem vals1 {x : V} {us : List Value} (r : Vals [x] us) : ∃ u, us = [u] ∧ RelV x u := by
 cases r with
 | cons r1 r2 => cases r2; exact ⟨_, rfl, r1⟩
theorem vals2 {x y : V} {us : List Value} (r : Vals [x, y] us) : ∃ u w', us = [u, w'] ∧ RelV x u ∧ RelV y w' := by
 cases r with
 | cons r1 r2 =>
  cases r2 with
  | cons r3 r4 => cases r4; exact ⟨_, _, rfl, r1, r3⟩
theorem call_max2 (hc : X.calm = true) : CallR X (.builtin "max") (fun xs H Q => ∃ i j, xs = [.int i, .int j] ∧ Q (.int (if j > i then j else i)) H) := by
 intro pins s σ H xs us Q I r h
 obtain ⟨i, j, rfl, q⟩ := h
 obtain ⟨u, w', rfl, ⟨t, rfl⟩, ⟨t', rfl⟩⟩ := vals2 r
 refine max_two_ints (I.ok.hd hc) fun h' tk k => ⟨_, H, I.kept k, ?_, q⟩
 by_cases hj : j > i
 ·rw [if_pos hj, if_pos hj]; exact ⟨_, rfl⟩
 ·rw [if_neg hj, if_neg hj]; exact ⟨_, rfl⟩
theorem call_min2 (hc : X.calm = true) : CallR X (.builtin "min") (fun xs H Q => ∃ i j, xs = [.int i, .int j] ∧ Q (.int (if j < i then j else i)) H) := by
 intro pins s σ H xs us Q I r h
 obtain ⟨i, j, rfl, q⟩ := h
 obtain ⟨u, w', rfl, ⟨t, rfl⟩, ⟨t', rfl⟩⟩ := vals2 r
 refine min_two_ints (I.ok.hd hc) fun h' tk k => ⟨_, H, I.kept k, ?_, q⟩
 by_cases hj : j < i
 ·rw [if_pos hj, if_pos hj]; exact ⟨_, rfl⟩
 ·rw [if_neg hj, if_neg hj]; exact ⟨_, rfl⟩
theorem call_int1 : CallR X (.type "int") (fun xs H Q => (∃ i, xs = [.int i] ∧ Q (.int i) H) ∨ ∃ k, xs = [.bl k] ∧ Q (.int (if k then 1 else 0)) H) := by
 intro pins s σ H xs us Q I r h
 rcases h with ⟨i, rfl, q⟩ | ⟨k, rfl, q⟩
 ·obtain ⟨u, rfl, t, rfl⟩ := vals1 r
  exact call_int_int ⟨.int i, H, I, ⟨_, rfl⟩, q⟩
 ·obtain ⟨u, rfl, r1⟩ := vals1 r
  cases r1
  exact call_int_bool ⟨.int (if k then 1 else 0), H, I.tok _, ⟨_, rfl⟩, q⟩
theorem call_str_int : CallR X (.type "str") (fun xs H Q => ∃ i, xs = [.int i] ∧ i.natAbs.log2 < 1920 ∧ Q (.str (toString i)) H) := by
 intro pins s σ H xs us Q I r h
 obtain ⟨i, rfl, hz, q⟩ := h
 obtain ⟨u, rfl, t, rfl⟩ := vals1 r
 exact PySem.P.str_of_int hz ⟨.str _, H, I.tok _, ⟨_, rfl⟩, q⟩
end
end L2
namespace L2
open PySem PySem.Spec PyProof.Rows
structure ObjM (h : Heap) (x dx C : Addr) (mA : Str → Option Value) : Prop where
 obj : h.get? x = some (PySem.W.instObj C dx)
 ns : h.Ns1 dx mA
 ne : dx ≠ x
theorem lookIn_ns {h : Heap} {dx : Addr} {mA : Str → Option Value} (n : h.Ns1 dx mA) : ∃ od, h.get? dx = some od ∧ ∀ name, PySem.W.lookIn name od = some (mA name) := by
 obtain ⟨o, es, ep, ho, hd, hk, _, hm⟩ := n
 refine ⟨o, ho, fun name => ?_⟩
 have e := hm name
 unfold nsFind findBy at e
 rw [← Array.find?_toList] at e
 unfold PySem.W.lookIn
 rw [hd]
 dsimp only
 split
 ·rename_i y q
  rw [q] at e
  exact congrArg some e
 ·rename_i q
  rw [q] at e
  have a : es.toList.any (·.refKey) = false := by
   rw [List.any_eq_false]
   intro y hy
   obtain ⟨z, t, hkey⟩ := hk y (Array.mem_toList_iff.mp hy)
   simp [DictEntry.refKey, hkey]
  have a' : ¬ es.toList.any (·.refKey) = true := by rw [a]; exact Bool.false_ne_true
  rw [if_neg a']
  exact congrArg some e
theorem ObjM.look {h : Heap} {x dx C : Addr} {mA : Str → Option Value} (I : ObjM h x dx C mA) : ∃ od, PySem.W.InstAt h x (PySem.W.instObj C dx) C (some od) ∧ ∀ name, PySem.W.lookIn name od = some (mA name) :=
 let ⟨od, ho, hl⟩ := lookIn_ns I.ns
 ⟨od, ⟨I.obj, rfl, rfl, ho⟩, hl⟩
section
variable {prog : Program} {w : World} {A : Around} {E : Value → Shared → Prop} {s : Shared} {K : PySem.W.Frag} {x dx C f : Addr} {mA : Str → Option Value} {name : Str} {v : Value}
theorem get_map {expr : Bool} {Q : Value → Shared → Prop} (X : K.In s.heap) (I : ObjM s.heap x dx C mA) (hg : PySem.W.plainGet K C name = true) (hh : PySem.W.hasDictIn K C = true)
  (ha : PySem.W.findIn K (.ref C) name = some none) (hv : mA name = some v) (hv' : PySem.W.handedIn v = true) (h : Q v { s with toks := s.toks + 1 }) :
  wpAny (model prog w) A (getAttr (.ref x) name expr) Q E s := by
 obtain ⟨od, J, hl⟩ := I.look
 exact PySem.W.get_value X J (PySem.W.plainGet_of hg).1 (PySem.W.findObj_own hh ha rfl (by rw [hl, hv])) hv' h
theorem get_meth {pl : Sem Bool} {Q : Value × List Value → Shared → Prop} (X : K.In s.heap) (I : ObjM s.heap x dx C mA) (hg : PySem.W.plainGet K C name = true)
  (hf : PySem.W.findIn K (.ref C) name = some (some (.ref f))) (ht : PySem.W.isFn K (.ref f) = true) (hv : mA name = none) (h : Q (.ref f, [.ref x]) s) :
  wpAny (model prog w) A (getMethod (.ref x) name pl) Q E s := by
 obtain ⟨od, J, hl⟩ := I.look
 exact PySem.W.method_fn X J (PySem.W.plainGet_of hg).1 (PySem.W.plainGet_of hg).2 hf (beq_iff_eq.mp ht) (by show (PySem.W.lookIn name od).map (·.isSome) = some false; rw [hl, hv]; rfl) h
theorem set_map {ns : List Str} {Q : Unit → Shared → Prop} (X : K.In s.heap) (I : ObjM s.heap x dx C mA)
  (hs : PySem.W.findIn K (.ref C) "__setattr__" = some (some (.builtin "object.__setattr__"))) (hp : PySem.W.plainOver K C = true) (ht : PySem.W.takerIn K C name = some none) (hh : PySem.W.hasDictIn K C = true)
  (hw : PySem.Within mA ns) (hsz : ns.length ≤ sizeLine)
  (h : ∀ h', ObjM h' x dx C (fun y => if y = name then some v else mA y) → Heap.SameBut dx s.heap h' → Q () { s with heap := h', toks := s.toks + 2 }) :
  wpAny (model prog w) A (setAttr (.ref x) name v) Q E s := by
 obtain ⟨od, J, hl⟩ := I.look
 refine PySem.W.set_plain X J hs (PySem.W.osa_open (s := { s with toks := s.toks + 1 }) (r := none) X J hp ht fun b => ?_)
 obtain ⟨cd, hc, hd'⟩ := PySem.W.any_some hh
 have hx : s.heap.get? x = some ⟨.ref C, some dx, .plain, #[]⟩ := I.obj
 refine wpAny_bind (wpAny_pure (wpAny_bind (wpAny_bind (wpAny_loadPart hx (wpAny_bind (PySem.W.Looks.here (s := { s with toks := s.toks + 1 }) (PySem.W.looks_clsIn X hc) ?_))))))
 rw [hd']
 refine wpAny_pure (a := some dx) (wpAny_bind (wpAny_pure (wpAny_bind ?_)))
 refine wpAny_nsSet1 (s := { s with toks := s.toks + 1 }) I.ns fun h' hn2 hs2 => ?_
 obtain ⟨oD, esD, epD, hoD, hdD, hcD⟩ := hn2.count (PySem.Within.cons name v hw)
 refine wpAny_bind (wpAny_lookBehind hoD (by rw [hdD]; exact pastItsLine_dict (Nat.le_trans hcD (by rw [List.length_cons]; omega))) ?_)
 exact wpAny_pure (h _ ⟨(hs2.2 _ (Ne.symm I.ne)).trans I.obj, hn2, I.ne⟩ hs2)
theorem make_map {R : Result → Shared → Prop} {vs : List Value} {kw : List (Str × Value)} (X : K.In s.heap) (hm : PySem.W.makesIn K C = true)
  (hi : PySem.W.findIn K (.ref C) "__init__" = some (some (.ref f))) (hf : PySem.W.typeIn K (.ref f) = some (.type "function"))
  (h : codeAny (model prog w) (A.under (.builtin "type.__call__" ⟨.ref C :: vs, kw⟩)) (.call (.ref f) ⟨.ref (s.heap.objs.size + 1) :: vs, kw⟩) (PySem.W.InitBack (s.heap.objs.size + 1) R)
   { s with heap := (s.heap.push PySem.W.emptyDict).push (PySem.W.instObj C s.heap.objs.size) }) :
  codeAny (model prog w) A (.call (.ref C) ⟨vs, kw⟩) R s := by
 obtain ⟨hh, g, d, t, os⟩ := s
 exact PySem.W.make_core (PySem.W.makes_of X hm) (PySem.W.looks_findIn X hi) (fun self => PySem.W.bind_fn X self hf) (.inl rfl) h
end
def putF (f : Str) (v : V) : List (Str × V) → List (Str × V)
 | [] => [(f, v)]
 | (g, x) :: r => if g = f then (g, v) :: r else (g, x) :: putF f v r
theorem lookup_putF (f g : Str) (v : V) : ∀ fs : List (Str × V), (putF f v fs).lookup g = if g = f then some v else fs.lookup g
 | [] => by
  show List.lookup g [(f, v)] = _
  by_cases h : g = f
  ·have hb : (g == f) = true := beq_iff_eq.mpr h
   simp only [List.lookup, hb, if_pos h]
  ·have hb : (g == f) = false := beq_eq_false_iff_ne.mpr h
   simp only [List.lookup, hb, if_neg h]
 | (k, x) :: r => by
  have ih := lookup_putF f g v r
  rw [show putF f v ((k, x) :: r) = (if k = f then (k, v) :: r else (k, x) :: putF f v r) from rfl]
  by_cases hk : k = f
  ·rw [if_pos hk]
   by_cases h : g = k
   ·have hb : (g == k) = true := beq_iff_eq.mpr h
    simp only [List.lookup, hb, if_pos (h.trans hk)]
   ·have hb : (g == k) = false := beq_eq_false_iff_ne.mpr h
    simp only [List.lookup, hb, if_neg (fun e : g = f => h (e.trans hk.symm))]
  ·rw [if_neg hk]
   by_cases h : g = k
   ·have hb : (g == k) = true := beq_iff_eq.mpr h
    simp only [List.lookup, hb, if_neg (fun e : g = f => hk (h.symm.trans e))]
   ·have hb : (g == k) = false := beq_eq_false_iff_ne.mpr h
    simp only [List.lookup, hb]
    exact ih
theorem keys_putF (f : Str) (v : V) : ∀ fs : List (Str × V), f ∈ (putF f v fs).map (·.1) ∧ ∀ g, g ∈ fs.map (·.1) → g ∈ (putF f v fs).map (·.1)
 | [] => ⟨by simp [putF], fun g h => by simp at h⟩
 | (k, x) :: r => by
  obtain ⟨i1, i2⟩ := keys_putF f v r
  rw [show putF f v ((k, x) :: r) = (if k = f then (k, v) :: r else (k, x) :: putF f v r) from rfl]
  by_cases hk : k = f
  ·rw [if_pos hk]
   subst hk
   exact ⟨by simp, fun g h => by simpa using h⟩
  ·rw [if_neg hk]
   refine ⟨?_, fun g h => ?_⟩
   ·rw [List.map_cons]
    exact List.mem_cons_of_mem _ i1
   ·rw [List.map_cons] at h ⊢
    rcases List.mem_cons.mp h with e | e
    ·exact List.mem_cons.mpr (.inl e)
    ·exact List.mem_cons_of_mem _ (i2 g e)
theorem length_putF (f : Str) (v : V) : ∀ fs : List (Str × V), (putF f v fs).length ≤ fs.length + 1
 | [] => by simp [putF]
 | (k, x) :: r => by
  have ih := length_putF f v r
  rw [show putF f v ((k, x) :: r) = (if k = f then (k, v) :: r else (k, x) :: putF f v r) from rfl]
  by_cases hk : k = f
  ·rw [if_pos hk, List.length_cons, List.length_cons]; omega
  ·rw [if_neg hk, List.length_cons, List.length_cons]; omega
theorem RelO.some_of {v : V} {o : Option Value} (r : RelO (some v) o) : ∃ u, o = some u ∧ RelV v u := by
 cases o with
 | none => exact (show False from r).elim
 | some u => exact ⟨u, rfl, r⟩
theorem RelO.none_of {o : Option Value} (r : RelO none o) : o = none := by
 cases o with
 | none => rfl
 | some u => exact (show False from r).elim
theorem handed_of {v : V} {u : Value} (r : RelV v u) : PySem.W.handedIn u = true := by
 cases v with
 | non => cases (show u = Value.none from r); rfl
 | bl b => cases (show u = Value.bool b from r); rfl
 | int i => obtain ⟨t, e⟩ := (show ∃ t, u = Value.int i t from r); cases e; rfl
 | str x => obtain ⟨t, e⟩ := (show ∃ t, u = Value.str x t from r); cases e; rfl
 | byt b => obtain ⟨t, e⟩ := (show ∃ t, u = Value.bytes b t from r); cases e; rfl
 | flt b => obtain ⟨t, e⟩ := (show ∃ t, u = Value.float b t from r); cases e; rfl
 | ref a => cases (show u = Value.ref a from r); rfl
 | ty n => cases (show u = Value.type n from r); rfl
section
variable {P : Program} {w : World} {H H' : Hp} {h h' : Heap} {a C dx : Addr} {fs fs' : List (Str × V)}
theorem ins_get (hok : HOk P w H h) (e : H a = some (.ins C dx fs)) : ∃ mA, ObjM h a dx C mA ∧ (∀ f, RelO (fs.lookup f) (mA f)) ∧ PySem.Within mA (fs.map (·.1)) ∧ fs.length ≤ 1000 ∧ H dx = some (.own a) := by
 obtain ⟨d, z, ne, ob, mA, n, r, q⟩ := (show ObjOk P w H h a (.ins C dx fs) from hok a _ e)
 exact ⟨mA, ⟨ob, n, ne⟩, r, q, z, d⟩
end
structure Cls (K : PySem.W.Frag) (C : Addr) : Prop where
 pg : PySem.W.plainGet K C Str.empty = true
 hd : PySem.W.hasDictIn K C = true
 po : PySem.W.plainOver K C = true
 sa : PySem.W.findIn K (.ref C) "__setattr__" = some (some (.builtin "object.__setattr__"))
theorem Cls.get {K : PySem.W.Frag} {C : Addr} (c : Cls K C) (f : Str) : PySem.W.plainGet K C f = true := c.pg
def NoAttr (K : PySem.W.Frag) (C : Addr) (f : Str) : Prop := PySem.W.findIn K (.ref C) f = some none
theorem NoAttr.taker {K : PySem.W.Frag} {C : Addr} {f : Str} (n : NoAttr K C f) : PySem.W.takerIn K C f = some none := by
 unfold PySem.W.takerIn
 rw [show PySem.W.findIn K (.ref C) f = some none from n]
 rfl
structure Meth (K : PySem.W.Frag) (C : Addr) (m : Str) (f : Addr) : Prop where
 at_ : PySem.W.findIn K (.ref C) m = some (some (.ref f))
 fn : PySem.W.isFn K (.ref f) = true
 kp : PySem.W.keepIn K (.ref f) = true
section
variable {X : Cx} {pins : List (Addr × Obj)} {σ : St} {H : Hp} {s : Shared} {a C dx : Addr} {fs : List (Str × V)} {f : Str} {v : V} {A : Around} {E : Value → Shared → Prop}
theorem getattr_ok {b : Bool} {Q : Value → Shared → Prop} (I : Inv X pins σ H s) (e : H a = some (.ins C dx fs)) (c : Cls X.K C) (n : NoAttr X.K C f) (l : fs.lookup f = some v)
  (h : ∀ u s', Inv X pins σ H s' → RelV v u → Q u s') : wpAny (model X.prog X.w) A (getAttr (.ref a) f b) Q E s := by
 obtain ⟨mA, O, r, _, _, _⟩ := ins_get I.hok e
 obtain ⟨u, hu, ru⟩ := RelO.some_of (v := v) (o := mA f) (by rw [← l]; exact r f)
 exact get_map I.kIn O (c.get f) c.hd n hu (handed_of ru) (h u _ (I.tok _) ru)
theorem getmeth_ok {m : Str} {g : Addr} {pl : Sem Bool} {Q : Value × List Value → Shared → Prop} (I : Inv X pins σ H s) (e : H a = some (.ins C dx fs)) (c : Cls X.K C) (k : Meth X.K C m g) (l : fs.lookup m = none)
  (h : Q (.ref g, [.ref a]) s) : wpAny (model X.prog X.w) A (getMethod (.ref a) m pl) Q E s := by
 obtain ⟨mA, O, r, _, _, _⟩ := ins_get I.hok e
 have hn : mA m = none := RelO.none_of (by rw [← l]; exact r m)
 exact get_meth I.kIn O (c.get m) k.at_ k.fn hn h
theorem setattr_ok {y : V} {u : Value} {Q : Unit → Shared → Prop} (I : Inv X pins σ H s) (e : H a = some (.ins C dx fs)) (c : Cls X.K C) (n : NoAttr X.K C f) (hl : fs.length < 1000) (ry : RelV y u)
  (h : ∀ s', Inv X pins σ (upd H a (.ins C dx (putF f y fs))) s' → Q () s') : wpAny (model X.prog X.w) A (setAttr (.ref a) f u) Q E s := by
 obtain ⟨mA, O, r, wi, _, ho⟩ := ins_get I.hok e
 have hz : (fs.map (·.1)).length ≤ sizeLine := by rw [List.length_map, sizeLine_eq]; omega
 refine set_map I.kIn O c.sa c.po n.taker c.hd wi hz fun h' O' sb => h _ ?_
 have hd : ∃ o, h'.get? dx = some o := let ⟨o, _, _, e', _⟩ := O'.ns; ⟨o, e'⟩
 refine I.write (x := a) (e := dx) (by rw [e]; exact True.intro) (.inr ho) (fun b q hb z => (sb.2 b hb).trans z) hd ?_
 refine ⟨by rw [upd_ne O.ne]; exact ho, ?_, O.ne, O'.obj, _, O'.ns, fun g => ?_, fun g hg => ?_⟩
 ·have := length_putF f y fs; omega
 ·show RelO ((putF f y fs).lookup g) (if g = f then some u else mA g)
  rw [lookup_putF]
  by_cases q : g = f
  ·rw [if_pos q, if_pos q]; exact ry
  ·rw [if_neg q, if_neg q]; exact r g
 ·by_cases q : g = f
  ·rw [q]; exact (keys_putF f y fs).1
  ·refine (keys_putF f y fs).2 g (wi g fun z => hg ?_)
   show (if g = f then some u else mA g) = none
   rw [if_neg q]; exact z
theorem Inv.made (I : Inv X pins σ H s) : Inv X pins σ (upd (upd H s.heap.objs.size (.own (s.heap.objs.size + 1))) (s.heap.objs.size + 1) (.ins C s.heap.objs.size []))
  { s with heap := (s.heap.push PySem.W.emptyDict).push (PySem.W.instObj C s.heap.objs.size) } := by
 have e1 : (s.heap.push PySem.W.emptyDict).get? s.heap.objs.size = some PySem.W.emptyDict := Heap.get?_push_size s.heap rfl
 have e2 : ((s.heap.push PySem.W.emptyDict).push (PySem.W.instObj C s.heap.objs.size)).get? (s.heap.objs.size + 1) = some (PySem.W.instObj C s.heap.objs.size) := by
  have := Heap.get?_push_size (s.heap.push PySem.W.emptyDict) (o := PySem.W.instObj C s.heap.objs.size) rfl
  rwa [Heap.size_push] at this
 have e3 : (s.heap.push PySem.W.emptyDict).Ns s.heap.objs.size (fun _ => none) := ⟨PySem.W.emptyDict, #[], _, e1, rfl, (fun e he => absurd he (by simp)), fun _ => rfl⟩
 have I1 := I.laid (a := s.heap.objs.size) (o := .own (s.heap.objs.size + 1)) (h' := s.heap.push PySem.W.emptyDict) (t' := s.toks) (fun b u q => Heap.get?_push_of_some _ q) (Nat.le_refl _) ⟨_, e1⟩
 refine I1.laid (a := s.heap.objs.size + 1) (o := .ins C s.heap.objs.size []) (t' := s.toks) (fun b u q => Heap.get?_push_of_some _ q) (Nat.le_of_eq (Heap.size_push _ _)) ?_
 have ne : s.heap.objs.size ≠ s.heap.objs.size + 1 := Nat.ne_of_lt (Nat.lt_succ_self _)
 refine ⟨by rw [upd_ne ne, upd_same], Nat.zero_le _, ne, e2, fun _ => none, (Heap.Ns1.of_empty e3).at fun o q => Heap.get?_push_of_some _ q, fun _ => True.intro, fun y hy => absurd rfl hy⟩
theorem attr_of {prog : Program} {w : World} {env : Env} {e : Expr} {f : Str} {pos : Pos} {s : Shared} {Q : Value → Shared → Prop} (hb : attributeBase e f env (eval e env) = eval e env)
  (h : wpAny (model prog w) A (eval e env) (fun o s₁ => wpAny (model prog w) A (getAttr o f true) Q E s₁) E s) : wpAny (model prog w) A (eval (.Attribute e f pos) env) Q E s :=
 Attribute_any_ h (by rw [arm_eval_Attribute, hb])
end
def tFld (K : PySem.W.Frag) (ta : TE) (f : Str) : TE := fun σ H Q => ta σ H fun x H1 => ∃ a C dx fs v, x = .ref a ∧ H1 a = some (.ins C dx fs) ∧ Cls K C ∧ NoAttr K C f ∧ fs.lookup f = some v ∧ Q v H1
def sFld (K : PySem.W.Frag) (ta tv : TE) (f : Str) : TS := fun D σ H => tv σ H fun y H1 => ta σ H1 fun x H2 => ∃ a C dx fs, x = .ref a ∧ H2 a = some (.ins C dx fs) ∧ Cls K C ∧ NoAttr K C f ∧ fs.length < 1000 ∧
 D.nx σ (upd H2 a (.ins C dx (putF f y fs)))
section
variable {X : Cx} {o e value : Expr} {f : Str} {pos pos' tpos : Pos} {ta tv : TE}
theorem pe_fld (he : PE X e ta) (hb : attributeBase e f X.env (eval e X.env) = eval e X.env) : PE X (.Attribute e f pos) (tFld X.K ta f) := by
 intro pins s σ H Q I h
 refine attr_of hb (thn (he pins s σ H _ I h) fun u s1 ⟨x, H1, I1, rx, a, C, dx, fs, v, ex, ea, c, n, l, q⟩ => ?_)
 subst ex
 obtain rfl : u = Value.ref a := rx
 exact getattr_ok I1 ea c n l fun u' s2 I2 ru => ⟨v, H1, I2, ru, q⟩
theorem ps_fld (ha : PE X o ta) (hv : PE X value tv) (hs : swapsWith value (some (.Attribute o f pos')) pos.line X.env = pure false) : PS X (.Assign [.Attribute o f pos'] value pos) (sFld X.K ta tv f) := by
 intro pins s σ H D I h
 refine plainObj_wpAny_Assign_Attribute (thn (hv pins s σ H _ I h) fun u s1 ⟨y, H1, I1, ry, q⟩ => thn (ha pins s1 σ H1 _ I1 q) fun ov s2 ⟨x, H2, I2, rx, a, C, dx, fs, ex, ea, c, n, l, q2⟩ => ?_) hs
 subst ex
 obtain rfl : ov = Value.ref a := rx
 exact setattr_ok I2 ea c n l ry fun s3 I3 => ⟨σ, _, I3, q2⟩
end
section
variable {X : Cx} {pins : List (Addr × Obj)} {σ : St} {H : Hp} {s : Shared} {A : Around} {E : Value → Shared → Prop} {Q : Value → Shared → Prop} {c : Value} {b : Bool}
inductive TyOf (K : PySem.W.Frag) (H : Hp) : V → Value → Prop where
 | non : TyOf K H .non (.type "NoneType")
 | bl (x : Bool) : TyOf K H (.bl x) (.type "bool")
 | int (i : Int) : TyOf K H (.int i) (.type "int")
 | str (x : Str) : TyOf K H (.str x) (.type "str")
 | flt (x : UInt64) : TyOf K H (.flt x) (.type "float")
 | lst {a : Addr} {xs : List V} (e : H a = some (.lst xs)) : TyOf K H (.ref a) (.type "list")
 | frz {a : Addr} {o : Obj} {xs : List V} (e : H a = some (.frz o (.lst xs))) : TyOf K H (.ref a) (.type "list")
 | tup {a : Addr} {xs : List V} (e : H a = some (.tup xs)) : TyOf K H (.ref a) (.type "tuple")
 | dK {a : Addr} {kvs : List (Key × V)} (e : H a = some (.dK kvs)) : TyOf K H (.ref a) (.type "dict")
 | dT {a : Addr} {kvs : List (List Key × V)} (e : H a = some (.dT kvs)) : TyOf K H (.ref a) (.type "dict")
 | ins {a C dx : Addr} {fs : List (Str × V)} (e : H a = some (.ins C dx fs)) (cl : Cls K C) (ha : PySem.W.findIn K (.ref C) "__class__" = some (some (.builtin "object.__class__")))
   (hn : PySem.W.specialIn K (.builtin "object.__class__") "__get__" = some (some (.builtin "getset_descriptor.__get__"))) (htk : PySem.W.takesIn K (.builtin "object.__class__") = some true)
   (hm : PySem.W.mroIn K C (.type "object") = some true) : TyOf K H (.ref a) (.ref C)
theorem isinst_ok {x : V} {u t : Value} (I : Inv X pins σ H s) (rx : RelV x u) (ty : TyOf X.K H x t) (e : PySem.W.kitOne X.K t c = some b) (h : ∀ tk, Q (.bool b) { s with toks := tk }) :
  wpAny (model X.prog X.w) A (call (.builtin "isinstance") [u, c]) Q E s := by
 cases ty with
 | non => cases (show u = Value.none from rx); exact PySem.W.kia_one PySem.W.kitx_none I.kIn True.intro e (fun z => nomatch z) h
 | bl y => cases (show u = Value.bool y from rx); exact PySem.W.kia_one PySem.W.kitx_bool I.kIn True.intro e (fun z => nomatch z) h
 | int i => obtain ⟨t, q⟩ := (show ∃ t, u = Value.int i t from rx); cases q; exact PySem.W.kia_one PySem.W.kitx_int I.kIn True.intro e (fun z => nomatch z) h
 | str y => obtain ⟨t, q⟩ := (show ∃ t, u = Value.str y t from rx); cases q; exact PySem.W.kia_one PySem.W.kitx_str I.kIn True.intro e (fun z => nomatch z) h
 | flt y => obtain ⟨t, q⟩ := (show ∃ t, u = Value.float y t from rx); cases q; exact PySem.W.kia_one PySem.W.kitx_float I.kIn True.intro e (fun z => nomatch z) h
 | @lst a xs ea =>
  cases (show u = Value.ref a from rx)
  obtain ⟨_, _, n, _, h1⟩ := (show ObjOk X.prog X.w H s.heap a (.lst xs) from I.hok a _ ea)
  exact PySem.W.kia_one PySem.W.kitx_list I.kIn ⟨_, h1, rfl⟩ e (fun z => nomatch z) h
 | @frz a ob xs ea =>
  cases (show u = Value.ref a from rx)
  obtain ⟨_, _, _, n, _, h1⟩ := (show ObjOk X.prog X.w H s.heap a (.frz ob (.lst xs)) from I.hok a _ ea)
  exact PySem.W.kia_one PySem.W.kitx_list I.kIn ⟨_, h1, rfl⟩ e (fun z => nomatch z) h
 | @tup a xs ea =>
  cases (show u = Value.ref a from rx)
  obtain ⟨_, _, _, p⟩ := (show ObjOk X.prog X.w H s.heap a (.tup xs) from I.hok a _ ea)
  obtain ⟨o, h1, h2, _⟩ := p
  exact PySem.W.kia_one PySem.W.kitx_tuple I.kIn ⟨o, h1, h2⟩ e (fun z => nomatch z) h
 | @dK a kvs ea =>
  cases (show u = Value.ref a from rx)
  obtain ⟨_, _, vs, _, p⟩ := (show ObjOk X.prog X.w H s.heap a (.dK kvs) from I.hok a _ ea)
  obtain ⟨o, es, ep, h1, h2, _⟩ := p
  exact PySem.W.kia_one PySem.W.kitx_dict I.kIn ⟨o, h1, h2.1⟩ e (fun z => nomatch z) h
 | @dT a kvs ea =>
  cases (show u = Value.ref a from rx)
  obtain ⟨_, _, xs, _, o, es, ep, h1, h2, _⟩ := (show ObjOk X.prog X.w H s.heap a (.dT kvs) from I.hok a _ ea)
  exact PySem.W.kia_one PySem.W.kitx_dict I.kIn ⟨o, h1, h2.1⟩ e (fun z => nomatch z) h
 | @ins a C dx fs ea cl ha hn htk hm =>
  cases (show u = Value.ref a from rx)
  obtain ⟨mA, O, _⟩ := ins_get I.hok ea
  obtain ⟨od, J, _⟩ := O.look
  exact PySem.W.kia_one (PySem.W.kitx_own (cl.get _) cl.hd ha hn htk hm) I.kIn J e (fun z => nomatch z) h
end
end L2
namespace L2
open PySem PySem.Spec PyProof.Rows
structure Room (k : Nat) (A : Around) : Prop where
 hd : A.handled = none
 dp : A.depth + 3 * k + 5 < recursionLimit
 un : A.units + 16 * k + 200 < cLine
 gd : A.guards = some []
theorem Room.mono {j k : Nat} {A : Around} (r : Room k A) (h : j ≤ k) : Room j A := ⟨r.hd, by have := r.dp; omega, by have := r.un; omega, r.gd⟩
theorem Room.deeper {k : Nat} {A : Around} (r : Room (k + 1) A) (env : Env) : Room k (A.deeper env) :=
 ⟨r.hd, by have := r.dp; show A.depth + 1 + 3 * k + 5 < _; omega, by have := r.un; show A.units + 3 + 16 * k + 200 < _; omega, r.gd⟩
theorem make_depth {A : Around} {C : Addr} {us : List Value} {kw : List (Str × Value)} : (A.under (.builtin "type.__call__" ⟨.ref C :: us, kw⟩)).depth = A.depth + 1 := by
 first | rfl | simp [Around.under, Code.weight, Code.isCreation, Code.isGuard, Code.isCaller, Code.frames, Code.isFrame, guardIds]
theorem make_units {A : Around} {C : Addr} {us : List Value} {kw : List (Str × Value)} : (A.under (.builtin "type.__call__" ⟨.ref C :: us, kw⟩)).units = A.units + 1 := by
 first | rfl | simp [Around.under, Code.cUnits, Code.frames, Code.isFrame]
theorem Room.make {k : Nat} {A : Around} (r : Room (k + 1) A) (C : Addr) (us : List Value) (kw : List (Str × Value)) : Room k (A.under (.builtin "type.__call__" ⟨.ref C :: us, kw⟩)) :=
 ⟨r.hd, by have := r.dp; rw [make_depth]; omega, by have := r.un; rw [make_units]; omega, r.gd⟩
theorem Room.depth {k : Nat} {A : Around} (r : Room k A) : A.depth < recursionLimit := by have := r.dp; omega
theorem Room.units {k : Nat} {A : Around} (r : Room k A) : A.units + 64 < cLine := by have := r.un; omega
theorem Room.units0 {k : Nat} {A : Around} (r : Room k A) : A.units < cLine := by have := r.un; omega
def tNil : TA := fun _ H Q => Q [] H
def tCons (ta : TE) (tr : TA) : TA := fun σ H Q => ta σ H fun x H1 => tr σ H1 fun xs H2 => Q (x :: xs) H2
section
variable {X : Cx} {e : Expr} {es : List Expr} {te : TE} {t : TA} {pos : Pos}
theorem pa_nil : PA X [] tNil := fun _ _ _ _ H Q I h => Calls.spliced_nil ⟨[], H, I, .nil, h⟩
theorem pa_cons (ha : PE X e te) (hr : PA X es t) (hs : starEach (e :: es) X.env = (false, eval e X.env) :: starEach es X.env := by rfl) : PA X (e :: es) (tCons te t) := by
 intro pos pins s σ H Q I h
 rw [hs]
 show wpAny _ _ (spliced ((false, eval e X.env) :: backTo pos (starEach es X.env))) _ _ s
 refine Calls.spliced_cons (thn (ha pins s σ H _ I h) fun u s1 ⟨x, H1, I1, r1, q1⟩ => ?_)
 exact thn (hr pos pins s1 σ H1 _ I1 q1) fun us s2 ⟨xs, H2, I2, r2, q2⟩ => ⟨x :: xs, H2, I2, .cons r1 r2, q2⟩
def tTup (t : TA) : TE := fun σ H Q => t σ H fun xs H1 => xs.length ≤ sizeLine ∧ ∀ p, H1 p = none → Q (.ref p) (upd H1 p (.tup xs))
def tLst (t : TA) : TE := fun σ H Q => t σ H fun xs H1 => xs.length ≤ sizeLine ∧ ∀ p, H1 p = none → Q (.ref p) (upd H1 p (.lst xs))
theorem pe_tup {x1} (h : PA X es t) : PE X (.Tuple es x1 pos) (tTup t) := by
 intro pins s σ H Q I hq
 refine wpAny_Tuple_spliced (thn (h pos pins s σ H _ I hq) fun us s1 ⟨xs, H1, I1, r, z, q⟩ => ⟨by rw [← r.length]; exact z, ?_⟩)
 have hf : H1 s1.heap.objs.size = none := I1.hok.fresh (Nat.le_refl _)
 refine ⟨.ref s1.heap.objs.size, upd H1 s1.heap.objs.size (.tup xs), I1.laid (t' := s1.toks) (fun b u e => Heap.get?_push_of_some _ e) (Nat.le_refl _) ?_, rfl, q _ hf⟩
 exact ⟨z, us, r, ⟨_, Heap.get?_push_size _ rfl, rfl, _, rfl⟩⟩
theorem pe_lst (h : PA X es t) : PE X (.List es pos) (tLst t) := by
 intro pins s σ H Q I hq
 refine wpAny_List_spliced (thn (h pos pins s σ H _ I hq) fun us s1 ⟨xs, H1, I1, r, z, q⟩ => ⟨by rw [← r.length]; exact z, ?_⟩)
 have hf : H1 s1.heap.objs.size = none := I1.hok.fresh (Nat.le_refl _)
 refine ⟨.ref s1.heap.objs.size, upd H1 s1.heap.objs.size (.lst xs), I1.laid (t' := s1.toks) (fun b u e => Heap.get?_push_of_some _ e) (Nat.le_refl _) ?_, rfl, q _ hf⟩
 exact ⟨z, us, 0, r, Heap.get?_push_size _ rfl⟩
end
abbrev Sp := List V → Hp → VK → XK → Prop
abbrev CXT := List Env → Hp → Shared → XK → Value → Shared → Prop
structure Env0 (P : Program) (w : World) (K : PySem.W.Frag) (mg : Str → Option Value) (base : Heap) (A : Around) (outer : List Env) (s : Shared) (H : Hp) : Prop where
 frames : A.frames = some outer
 mod : Mod K mg base
 bs : ∀ b o, base.get? b = some o → s.heap.get? b = some o ∧ H b = none
 bsz : base.objs.size ≤ s.heap.objs.size
 funs : s.heap.FunFrames base outer
 frf : ∀ b ∈ frs outer, H b = none
 hok : HOk P w H s.heap
 bare : AllBare s.gens
def CE (outer : List Env) (P : Program) (w : World) (H : Hp) (s : Shared) (Q : VK) (u : Value) (s' : Shared) : Prop :=
 ∃ v H', s'.os = s.os ∧ AllBare s'.gens ∧ Un (frs outer) [] H H' s.heap s'.heap ∧ HOk P w H' s'.heap ∧ RelV v u ∧ Q v H'
def CR (CX : CXT) (outer : List Env) (P : Program) (w : World) (H : Hp) (s : Shared) (Q : VK) (E : XK) (r : Result) (s' : Shared) : Prop :=
 match r with
 | .ok (.ret u) => CE outer P w H s Q u s'
 | .ok _ => False
 | .error e => CX outer H s E e s'
structure FnOk (P : Program) (w : World) (K : PySem.W.Frag) (mg : Str → Option Value) (base : Heap) (CX : CXT) (k : Nat) (f : Addr) (fd : FuncData) (ps : List Str) (sp : Sp) : Prop where
 len : ∀ vs H Q E, sp vs H Q E → vs.length = ps.length
 run : ∀ (A : Around) (outer : List Env) (s : Shared) (H : Hp) (args : Args) (us : List Value) (vs : List V) (Q : VK) (E : XK), Room k A → Env0 P w K mg base A outer s H → BindsTo s fd args (ps.zip us) → Vals vs us → sp vs H Q E →
  codeAny (model P w) A (.call (.ref f) args) (CR CX outer P w H s Q E) s
theorem FnOk.mono {P : Program} {w : World} {K : PySem.W.Frag} {mg : Str → Option Value} {base : Heap} {CX : CXT} {j k : Nat} {f : Addr} {fd : FuncData} {ps : List Str} {sp : Sp} (F : FnOk P w K mg base CX j f fd ps sp) (h : j ≤ k) :
  FnOk P w K mg base CX k f fd ps sp := ⟨F.len, fun A outer s H args us vs Q E hr => F.run A outer s H args us vs Q E (hr.mono h)⟩
theorem Env0.make {P : Program} {w : World} {K : PySem.W.Frag} {mg : Str → Option Value} {base : Heap} {A : Around} {outer : List Env} {s : Shared} {H : Hp} (e : Env0 P w K mg base A outer s H) (C : Addr) (us : List Value) (kw : List (Str × Value)) :
  Env0 P w K mg base (A.under (.builtin "type.__call__" ⟨.ref C :: us, kw⟩)) outer s H := ⟨by first | exact e.frames | (simpa [Around.under, Code.envs, Code.isFrame, pushEnvs] using e.frames), e.mod, e.bs, e.bsz, e.funs, e.frf, e.hok, e.bare⟩
section
variable {X : Cx} {pins : List (Addr × Obj)} {σ : St} {H : Hp} {s s' : Shared}
theorem Inv.env0 (I : Inv X pins σ H s) : Env0 X.prog X.w X.K X.mg X.base X.A X.stack s H :=
 ⟨I.ok.frames, I.ok.mod, I.bs, Nat.le_trans I.ok.bsz I.sz, I.stack, I.stkFree, I.hok, I.bare⟩
theorem Inv.after {Q : VK} {u : Value} (I : Inv X pins σ H s) (h : CE X.stack X.prog X.w H s Q u s') : EP X pins σ Q u s' := by
 obtain ⟨v, H', os, bare, un, hok, r, q⟩ := h
 obtain ⟨hh, g, d, t, os'⟩ := s'
 obtain rfl : os' = s.os := os
 exact ⟨v, H', I.call (h' := hh) (g' := g) (d' := d) (t' := t) (ch := []) un hok bare (fun b z => absurd z (by simp)), r, q⟩
end
def tCall (sp : Sp) (dvs : List V) (E : XK) (t : TA) : TE := fun σ H Q => t σ H fun vs H1 => sp (vs ++ dvs) H1 Q E
def tMeth (C : Addr) (m : Str) (sp : Sp) (dvs : List V) (E : XK) (ta : TE) (t : TA) : TE := fun σ H Q => ta σ H fun x H1 => ∃ a dx fs, x = .ref a ∧ H1 a = some (.ins C dx fs) ∧ fs.lookup m = none ∧
 t σ H1 fun vs H2 => sp (x :: (vs ++ dvs)) H2 Q E
def tMake (C : Addr) (sp : Sp) (dvs : List V) (E : XK) (t : TA) : TE := fun σ H Q => t σ H fun vs H1 => ∀ x dx, H1 x = none → H1 dx = none → dx ≠ x →
 sp (.ref x :: (vs ++ dvs)) (upd (upd H1 dx (.own x)) x (.ins C dx [])) (fun v H2 => v = .non ∧ Q (.ref x) H2) E
def Binds (K : PySem.W.Frag) (fd : FuncData) (ps : List Str) (ds : List Value) : Prop :=
 ∀ (s : Shared) (us : List Value), K.In s.heap → (us ++ ds).length = ps.length → BindsTo s fd ⟨us, []⟩ (ps.zip (us ++ ds))
theorem Binds.all {K : PySem.W.Frag} {fd : FuncData} {ps : List Str} (h : ∀ us : List Value, us.length = ps.length → bindArgs fd ⟨us, []⟩ = pure (ps.zip us)) : Binds K fd ps [] := fun s us _ hl => by
 rw [List.append_nil] at hl ⊢
 exact .of_eq (h us hl)
def Passes (CX : CXT) (X : Cx) (E : XK) : Prop := ∀ (pins : List (Addr × Obj)) (σ : St) (H : Hp) (s : Shared) (e : Value) (s' : Shared), Inv X pins σ H s → CX X.stack H s E e s' → X.xe e s'
section
variable {X : Cx} {CX : CXT} {k : Nat} {f C : Addr} {fd : FuncData} {ps : List Str} {sp : Sp} {dvs : List V} {ds : List Value} {E : XK} {x m : Str} {p pos apos : Pos} {e o : Expr} {es : List Expr} {ta : TE} {t : TA}
theorem run_fn {pins : List (Addr × Obj)} {σ : St} {H : Hp} {s : Shared} {Q : VK} {us : List Value} {vs : List V} (F : FnOk X.prog X.w X.K X.mg X.base CX k f fd ps sp) (hr : Room k X.A) (hb : Binds X.K fd ps ds) (hd : Vals dvs ds) (hx : Passes CX X E)
  (I : Inv X pins σ H s) (r : Vals vs us) (h : sp (vs ++ dvs) H Q E) : wpAny (model X.prog X.w) X.A (call (.ref f) us) (EP X pins σ Q) X.xe s := by
 have r2 : Vals (vs ++ dvs) (us ++ ds) := r.append hd
 have hl : (us ++ ds).length = ps.length := by rw [← r2.length]; exact F.len _ _ _ _ h
 refine wpAny_call (codeAny_mono (F.run X.A X.stack s H ⟨us, []⟩ (us ++ ds) (vs ++ dvs) Q E hr I.env0 (hb s us I.kIn hl) r2 h) fun r s' hq => ?_)
 cases r with
 | error e => exact hx pins σ H s e s' I hq
 | ok fl =>
  cases fl with
  | ret u => exact I.after hq
  | next => exact False.elim hq
  | brk => exact False.elim hq
  | cont => exact False.elim hq
theorem pe_call (F : FnOk X.prog X.w X.K X.mg X.base CX k f fd ps sp) (hr : Room k X.A) (hg : Gl X x) (hm : X.mg x = some (.ref f)) (hk : PySem.W.keepIn X.K (.ref f) = true) (hb : Binds X.K fd ps ds) (hd : Vals dvs ds) (hx : Passes CX X E)
  (ha : PA X (e :: es) t) (hdb : (x == ("__debug__" : Str)) = false := by decide) (he : starEach (e :: es) X.env = (false, eval e X.env) :: starEach es X.env := by rfl) (hpl : (backTo pos (starEach es X.env)).any (·.1) = false := by rfl) :
  PE X (.Call (.Name x p) (e :: es) [] pos) (tCall sp dvs E t) := by
 intro pins s σ H Q I h
 refine wpAny_Call_Name_kw (ld_glob I hg hm ?_ hdb)
 refine PySem.W.callWith_K (h₀ := X.base) I.ok.mod.kin hk (thn (ha pos pins s σ H _ I h) fun us s1 ⟨vs, H1, I1, r, q⟩ => ⟨I1.kIn, ?_⟩) he hpl
 exact run_fn F hr hb hd hx I1 r q
theorem pe_meth {pl : Sem Bool} (he : PE X o ta) (c : Cls X.K C) (hm : Meth X.K C m f) (F : FnOk X.prog X.w X.K X.mg X.base CX k f fd ps sp) (hr : Room k X.A) (hb : Binds X.K fd ps ds) (hd : Vals dvs ds) (hx : Passes CX X E) (ha : PA X (e :: es) t)
  (hst : starEach (e :: es) X.env = (false, eval e X.env) :: starEach es X.env := by rfl) (hpl : (backTo pos (starEach es X.env)).any (·.1) = false := by rfl)
  (ht : eval (.Call (.Attribute o m apos) (e :: es) [] pos) X.env = (do
   let ov ← eval o X.env
   standAt apos.atName
   let (f, first) ← holding [ov] (getMethod ov m pl)
   callWith pos f first (backTo pos (starEach (e :: es) X.env)) (backToKw pos (keywordEach [] X.env))) := by rfl) :
  PE X (.Call (.Attribute o m apos) (e :: es) [] pos) (tMeth C m sp dvs E ta t) := by
 intro pins s σ H Q I h
 refine PySem.W.methodCall_KW (pl := pl) (thn (he pins s σ H _ I h) fun u s1 ⟨x, H1, I1, rx, a, dx, fs, ex, ea, l, q⟩ => ?_) ht
 subst ex
 obtain rfl : u = Value.ref a := rx
 refine getmeth_ok I1 ea c hm l ?_
 refine PySem.W.callWith_K (first := [.ref a]) (h₀ := X.base) I.ok.mod.kin hm.kp (thn (ha pos pins s1 σ H1 _ I1 q) fun us s2 ⟨vs, H2, I2, r, q2⟩ => ⟨I2.kIn, ?_⟩) hst hpl
 exact run_fn (us := .ref a :: us) (vs := .ref a :: vs) F hr hb hd hx I2 (.cons rfl r) q2
theorem pe_meth0 {pl : Sem Bool} (he : PE X o ta) (c : Cls X.K C) (hm : Meth X.K C m f) (F : FnOk X.prog X.w X.K X.mg X.base CX k f fd ps sp) (hr : Room k X.A) (hb : Binds X.K fd ps ds) (hd : Vals dvs ds) (hx : Passes CX X E)
  (ht : eval (.Call (.Attribute o m apos) [] [] pos) X.env = (do
   let ov ← eval o X.env
   standAt apos.atName
   let (f, first) ← holding [ov] (getMethod ov m pl)
   callWith pos f first (backTo pos (starEach [] X.env)) (backToKw pos (keywordEach [] X.env))) := by rfl) :
  PE X (.Call (.Attribute o m apos) [] [] pos) (tMeth C m sp dvs E ta tNil) := by
 intro pins s σ H Q I h
 refine PySem.W.methodCall_KW (pl := pl) (thn (he pins s σ H _ I h) fun u s1 ⟨x, H1, I1, rx, a, dx, fs, ex, ea, l, q⟩ => ?_) ht
 subst ex
 obtain rfl : u = Value.ref a := rx
 refine getmeth_ok I1 ea c hm l ?_
 exact PySem.W.callWith_K0 (first := [.ref a]) I1.kIn hm.kp (run_fn (us := [.ref a]) (vs := [.ref a]) F hr hb hd hx I1 (.cons rfl .nil) q)
structure Mk (K : PySem.W.Frag) (C f : Addr) : Prop where
 makes : PySem.W.makesIn K C = true
 init : PySem.W.findIn K (.ref C) "__init__" = some (some (.ref f))
 fn : PySem.W.isFn K (.ref f) = true
 kp : PySem.W.keepIn K (.ref C) = true
theorem run_make {pins : List (Addr × Obj)} {σ : St} {H : Hp} {s : Shared} {Q : VK} {us : List Value} {vs : List V} (M : Mk X.K C f) (F : FnOk X.prog X.w X.K X.mg X.base CX k f fd ps sp) (hr : Room (k + 1) X.A) (hb : Binds X.K fd ps ds) (hd : Vals dvs ds)
  (hx : Passes CX X E) (I : Inv X pins σ H s) (r : Vals vs us)
  (h : ∀ x dx, H x = none → H dx = none → dx ≠ x → sp (.ref x :: (vs ++ dvs)) (upd (upd H dx (.own x)) x (.ins C dx [])) (fun v H2 => v = .non ∧ Q (.ref x) H2) E) :
  wpAny (model X.prog X.w) X.A (call (.ref C) us) (EP X pins σ Q) X.xe s := by
 have hq := h (s.heap.objs.size + 1) s.heap.objs.size (I.hok.fresh (Nat.le_succ _)) (I.hok.fresh (Nat.le_refl _)) (Nat.ne_of_lt (Nat.lt_succ_self _))
 have I2 := Inv.made (C := C) I
 have r2 : Vals (V.ref (s.heap.objs.size + 1) :: (vs ++ dvs)) (Value.ref (s.heap.objs.size + 1) :: (us ++ ds)) := .cons rfl (r.append hd)
 have hl : (Value.ref (s.heap.objs.size + 1) :: us ++ ds).length = ps.length := by
  have e := r2.length
  rw [F.len _ _ _ _ hq] at e
  exact e.symm
 refine wpAny_call (make_map (f := f) I.kIn M.makes M.init (beq_iff_eq.mp M.fn) (codeAny_mono (F.run _ X.stack _ _ ⟨Value.ref (s.heap.objs.size + 1) :: us, []⟩ (Value.ref (s.heap.objs.size + 1) :: (us ++ ds)) _ _ E (hr.make C us [])
  (I2.env0.make C us []) (hb _ (Value.ref (s.heap.objs.size + 1) :: us) I2.kIn hl) r2 hq) fun r s' hq' => ?_))
 cases r with
 | error e => exact hx pins σ _ _ e s' I2 hq'
 | ok fl =>
  cases fl with
  | ret u =>
   obtain ⟨v, H', I3, rv, ev, q3⟩ := I2.after hq'
   subst ev
   exact ⟨rv, ⟨V.ref (s.heap.objs.size + 1), H', I3, rfl, q3⟩⟩
  | next => exact False.elim hq'
  | brk => exact False.elim hq'
  | cont => exact False.elim hq'
theorem pe_make (M : Mk X.K C f) (F : FnOk X.prog X.w X.K X.mg X.base CX k f fd ps sp) (hr : Room (k + 1) X.A) (hg : Gl X x) (hm : X.mg x = some (.ref C)) (hb : Binds X.K fd ps ds) (hd : Vals dvs ds) (hx : Passes CX X E)
  (ha : PA X (e :: es) t) (hdb : (x == ("__debug__" : Str)) = false := by decide) (he : starEach (e :: es) X.env = (false, eval e X.env) :: starEach es X.env := by rfl) (hpl : (backTo pos (starEach es X.env)).any (·.1) = false := by rfl) :
  PE X (.Call (.Name x p) (e :: es) [] pos) (tMake C sp dvs E t) := by
 intro pins s σ H Q I h
 refine wpAny_Call_Name_kw (ld_glob I hg hm ?_ hdb)
 refine PySem.W.callWith_K (h₀ := X.base) I.ok.mod.kin M.kp (thn (ha pos pins s σ H _ I h) fun us s1 ⟨vs, H1, I1, r, q⟩ => ⟨I1.kIn, ?_⟩) he hpl
 exact run_make M F hr hb hd hx I1 r q
end
section
variable {X : Cx} {CX : CXT} {k : Nat} {f C : Addr} {fd : FuncData} {ps ks : List Str} {sp : Sp} {E : XK} {x m : Str} {p pos apos kpos : Pos} {e o : Expr} {es : List Expr} {kws : List Keyword} {te ta : TE} {t tk : TA} {nm : Option Str}
variable {g : List Value → List Value → List Value} {gV : List V → List V → List V}
end
structure FnScope (N P : List Str) (sc : Scope) : Prop where
 kind : sc.kind = .function
 co : sc.isCoroutine = false
 gen : sc.isGenerator = false
 nd : N.Nodup
 pre : N.take P.length = P
 par : ∀ x ∈ P, sc.names.lookup x = some .local ∨ sc.names.lookup x = some .cell
 nofree : ∀ y ∈ sc.names, y.2 ≠ .free
theorem bindL_out {kindOf : Str → Option NameKind} {x : Str} : ∀ {binds : List (Str × Value)} {m : Str → Option Value}, (∀ v, (x, v) ∉ binds) → bindL kindOf binds m x = m x
 | [], _, _ => rfl
 | (n, v) :: r, m, h => by
  unfold bindL
  rw [bindL_out fun w hw => h w (List.mem_cons_of_mem _ hw)]
  split
  ·have : x ≠ n := by rintro rfl; exact h v List.mem_cons_self
   simp [this]
  ·rfl
theorem bindC_out {kindOf : Str → Option NameKind} {x : Str} : ∀ {binds : List (Str × Value)} {m : Str → Option Value}, (∀ v, (x, v) ∉ binds) → bindC kindOf binds m x = m x
 | [], _, _ => rfl
 | (n, v) :: r, m, h => by
  unfold bindC
  rw [bindC_out fun w hw => h w (List.mem_cons_of_mem _ hw)]
  split
  ·rfl
  ·have : x ≠ n := by rintro rfl; exact h v List.mem_cons_self
   simp [this]
theorem bindL_get {kindOf : Str → Option NameKind} {x : Str} {v : Value} : ∀ {P : List Str} {vs : List Value} {i : Nat} {m : Str → Option Value}, P.Nodup → P[i]? = some x → vs[i]? = some v → kindOf x = some .local →
  bindL kindOf (P.zip vs) m x = some v
 | [], _, _, _, _, h, _, _ => by simp at h
 | _ :: _, [], _, _, _, _, h, _ => by simp at h
 | p :: P, w :: vs, 0, m, nd, h1, h2, hk => by
  simp at h1 h2; subst h1; subst h2
  show bindL kindOf ((p, w) :: P.zip vs) m p = _
  unfold bindL
  rw [bindL_out fun v hv => (List.nodup_cons.mp nd).1 (List.of_mem_zip hv).1, if_pos hk]
  simp
 | p :: P, w :: vs, i + 1, m, nd, h1, h2, hk => by
  show bindL kindOf ((p, w) :: P.zip vs) m x = _
  unfold bindL
  exact bindL_get (i := i) (List.nodup_cons.mp nd).2 (by simpa using h1) (by simpa using h2) hk
theorem bindC_get {kindOf : Str → Option NameKind} {x : Str} {v : Value} : ∀ {P : List Str} {vs : List Value} {i : Nat} {m : Str → Option Value}, P.Nodup → P[i]? = some x → vs[i]? = some v → kindOf x ≠ some .local →
  bindC kindOf (P.zip vs) m x = some v
 | [], _, _, _, _, h, _, _ => by simp at h
 | _ :: _, [], _, _, _, _, h, _ => by simp at h
 | p :: P, w :: vs, 0, m, nd, h1, h2, hk => by
  simp at h1 h2; subst h1; subst h2
  show bindC kindOf ((p, w) :: P.zip vs) m p = _
  unfold bindC
  rw [bindC_out fun v hv => (List.nodup_cons.mp nd).1 (List.of_mem_zip hv).1, if_neg hk]
  simp
 | p :: P, w :: vs, i + 1, m, nd, h1, h2, hk => by
  show bindC kindOf ((p, w) :: P.zip vs) m x = _
  unfold bindC
  exact bindC_get (i := i) (List.nodup_cons.mp nd).2 (by simpa using h1) (by simpa using h2) hk
def start (N : List Str) (vs : List V) : St := vs.map some ++ List.replicate (N.length - vs.length) none
def cxOf (CX : CXT) (P : Program) (w : World) (K : PySem.W.Frag) (mg : Str → Option Value) (base : Heap) (N : List Str) (qual : Str) (scope : Scope) (f : Addr) (cd : Value) (A : Around) (outer : List Env) (s : Shared) (H : Hp) (E : XK) : Cx where
 prog := P
 w := w
 K := K
 mg := mg
 base := base
 A := A.deeper (envOfC qual scope s.heap.objs.size f cd)
 N := N
 s₀ := s
 H₀ := H
 env := envOfC qual scope s.heap.objs.size f cd
 outer := outer
 stack := envOfC qual scope s.heap.objs.size f cd :: outer
 ex := []
 calm := true
 fn := fun _ => true
 pn := []
 xe := fun e s' => wpAny (model P w) (A.deeper (envOfC qual scope s.heap.objs.size f cd)) (leaving (envOfC qual scope s.heap.objs.size f cd) e) (fun _ s'' => CX outer H s E e s'') (fun e' s'' => CX outer H s E e' s'') s'
theorem cell_has {sc : Scope} {n : Nat} {x : Str} (h : sc.names.lookup x = some .cell) : ∃ c, (cellsFrom n sc.names []).lookup x = some c := by
 have q := PySem.W.cellsFrom_some sc.names n [] (.inl h)
 exact Option.isSome_iff_exists.mp q
theorem inv_start {CX : CXT} {P : Program} {w : World} {K : PySem.W.Frag} {mg : Str → Option Value} {base : Heap} {N ps : List Str} {qual : Str} {scope : Scope} {f : Addr} {cd : Value} {A : Around} {outer : List Env} {s s1 : Shared} {H : Hp} {E : XK} {us : List Value} {vs : List V}
  (S : FnScope N ps scope) (hd : A.handled = none) (e0 : Env0 P w K mg base A outer s H) (hl : vs.length = ps.length) (r : Vals vs us)
  (x : InCallC s s.heap.objs.size (bindL (envOfC qual scope s.heap.objs.size f cd).kindOf (ps.zip us) fun _ => none) (cellsFrom (s.heap.objs.size + 1) scope.names []) (bindC (envOfC qual scope s.heap.objs.size f cd).kindOf (ps.zip us) fun _ => none) s1) :
  Inv (cxOf CX P w K mg base N qual scope f cd A outer s H E) [] (start N vs) H s1 := by
 have hpl : ps.length ≤ N.length := by have := congrArg List.length S.pre; rw [List.length_take] at this; omega
 obtain ⟨h1, tk, rfl, hk⟩ := x.done
 have noA : ∀ b : Addr, b ∉ (cxOf CX P w K mg base N qual scope f cd A outer s H E).ex := fun b z => absurd (show b ∈ ([] : List Addr) from z) (by simp)
 refine ⟨⟨e0.mod, S.kind, rfl, rfl, Nat.le_refl _, fun y z c h1 h2 => ?_, fun y hy => ?_, fun y c _ h => ?_, fun _ => hd, Around.frames_deeper e0.frames, .inr ⟨rfl, rfl⟩, fun b z => absurd z (noA b), e0.bs, e0.bsz, fun b _ _ => noA b, fun b z => absurd z (noA b), e0.funs, e0.frf⟩,
  rfl, e0.bare, Un.kept hk, ⟨_, x.toInCall.ns, fun i y v h1 h2 h3 => ?_⟩, fun y c h => ⟨_, x.cell y c h⟩, e0.hok.fresh (Nat.le_refl _), fun y c h => ?_, fun p hp => absurd (show p ∈ ([] : List (Addr × Obj)) from hp) (by simp), e0.hok.kept hk, ?_⟩
 ·exact name_of_addr x.apart (PySem.mem_of_lookup h1) (PySem.mem_of_lookup h2)
 ·have hy : scope.names.lookup y = some .cell ∨ scope.names.lookup y = some .free := hy
  rcases hy with hy | hy
  ·exact cell_has hy
  ·exact absurd rfl (S.nofree _ (PySem.mem_of_lookup hy))
 ·exact Nat.le_of_lt (x.above y c (PySem.mem_of_lookup h))
 ·have hi : i < vs.length := by
   unfold start at h2
   by_cases hi : i < vs.length
   ·exact hi
   ·rw [List.getElem?_append_right (by simpa using hi)] at h2
    rw [List.getElem?_replicate] at h2
    split at h2 <;> cases h2
  have ha : vs[i]? = some v := by
   unfold start at h2
   rw [List.getElem?_append_left (by simpa using hi), List.getElem?_map] at h2
   cases e : vs[i]? with
   | none => rw [e] at h2; cases h2
   | some a => rw [e] at h2; cases h2; rfl
  obtain ⟨u, hu, rv⟩ := r.get ha
  have hp : ps[i]? = some y := by
   rw [← S.pre, List.getElem?_take_of_lt (by omega)]; exact h1
  have ndP : ps.Nodup := by rw [← S.pre]; exact S.nd.sublist (List.take_sublist _ _)
  refine ⟨u, rv, ?_⟩
  rcases S.par y (List.mem_of_getElem? hp) with k | k
  ·exact .inl ⟨k, bindL_get ndP hp hu k⟩
  ·obtain ⟨c, e⟩ := cell_has (n := s.heap.objs.size + 1) k
   refine .inr ⟨.inl k, c, e, ?_⟩
   have q := x.cell y c e
   rw [bindC_get ndP hp hu (by show scope.names.lookup y ≠ _; rw [k]; decide)] at q
   exact q
 ·exact e0.hok.fresh (Nat.le_of_lt (x.above y c (PySem.mem_of_lookup h)))
 ·unfold start
  show _ = N.length
  rw [List.length_append, List.length_map, List.length_replicate]
  omega
theorem fn_of {CX : CXT} {P : Program} {w : World} {K : PySem.W.Frag} {mg : Str → Option Value} {base : Heap} {k : Nat} {f : Addr} {name qual : Str} {params : Arguments} {body : List Stmt} {scope : Scope} {dV kV doc pm cdv ct oc : Value} {an od : Option Addr}
  {osl : Array (Option Value)} {N ps : List Str} {sp : Sp} (lk : K.lookup f = some ⟨oc, od, .func (PySem.W.fnOf name qual params body scope dV kV doc pm an cdv ct), osl⟩) (hcd : PySem.W.codeIn K cdv qual = true) (S : FnScope N ps scope)
  (len : ∀ vs H Q E, sp vs H Q E → vs.length = ps.length)
  (hbody : ∀ (A : Around) (outer : List Env) (s : Shared) (H : Hp) (vs : List V) (Q : VK) (E : XK), Room k (A.deeper (envOfC qual scope s.heap.objs.size f cdv)) → sp vs H Q E →
   ∃ t, PSs (cxOf CX P w K mg base N qual scope f cdv A outer s H E) body t ∧ t { nx := fun _ H' => Q .non H', rt := Q } (start N vs) H) :
  FnOk P w K mg base CX (k + 1) f (PySem.W.fnOf name qual params body scope dV kV doc pm an cdv ct) ps sp := by
 refine ⟨len, fun A outer s H args us vs Q E hr e0 hb r hsp => ?_⟩
 have hl := len _ _ _ _ hsp
 have KX : K.In s.heap := e0.mod.kin.keeps fun b o e => (e0.bs b o e).1
 have lim : s.heap.NoLimit := e0.mod.nolimit.keeps fun b o e => (e0.bs b o e).1
 have hkind : ∀ y ∈ ps.zip us, scope.names.lookup y.1 = some .local ∨ (scope.names.lookup y.1 = some .cell ∧ ((cellsFrom (s.heap.objs.size + 1) scope.names []).lookup y.1).isSome = true) := fun ⟨n, v⟩ hy => by
  rcases S.par n (List.of_mem_zip hy).1 with q | q
  ·exact .inl q
  ·exact .inr ⟨q, PySem.W.cellsFrom_some _ _ _ (.inl q)⟩
 refine codeAny_call_function hr.depth (KX _ _ lk) rfl S.co S.gen rfl (PySem.W.codeRec_of KX hcd) (hb _ _ _ _ ?_)
 refine wpAny_newFunctionEnv_cells S.kind hkind fun env he s1 x => ?_
 subst he
 refine ⟨lim.keeps x.toInCall.keep, codeAny_func ?_⟩
 obtain ⟨t, ht, hq⟩ := hbody A outer s H vs Q E (hr.deeper _) hsp
 have I : Inv (cxOf CX P w K mg base N qual scope f cdv A outer s H E) [] (start N vs) H s1 := inv_start S hr.hd e0 hl r x
 refine wpAny_mono (ht [] s1 (start N vs) H _ I hq) (fun fl s' hs => ?_) fun e s' hs => hs
 have fin : ∀ {σ' : St} {H' : Hp} {v : V} {u : Value}, Inv (cxOf CX P w K mg base N qual scope f cdv A outer s H E) [] σ' H' s' → RelV v u → Q v H' → CE outer P w H s Q u s' :=
  fun {σ' H' v u} J rv q => ⟨v, H', J.os, J.bare, J.base, J.hok, rv, q⟩
 cases fl with
 | ret u =>
  obtain ⟨v, σ', H', J, rv, q⟩ := hs
  exact fin J rv q
 | next =>
  obtain ⟨σ', H', J, q⟩ := hs
  exact fin (v := V.non) (u := Value.none) J rfl q
 | brk =>
  obtain ⟨_, _, _, q⟩ := hs
  exact False.elim q
 | cont =>
  obtain ⟨_, _, _, q⟩ := hs
  exact False.elim q
end L2
namespace L2
open PySem PySem.Spec PyProof.Rows
section
variable {X : Cx} {x : Str} {p pos : Pos} {e : Expr} {es : List Expr} {t : TA} {id T : String} {r : List V → Hp → VK → Prop}
def tCB (r : List V → Hp → VK → Prop) (t : TA) : TE := fun σ H Q => t σ H fun vs H1 => r vs H1 Q
theorem pe_callB (hc : CallR X (.builtin id) r) (hg : Gl X x) (hm : X.mg x = none) (hv : bootBuiltins x = some (.builtin id)) (ha : PA X (e :: es) t) (hn : x ≠ "__name__" := by decide) (hdb : (x == ("__debug__" : Str)) = false := by decide)
  (he : starEach (e :: es) X.env = (false, eval e X.env) :: starEach es X.env := by rfl) (hpl : (backTo pos (starEach es X.env)).any (·.1) = false := by rfl) : PE X (.Call (.Name x p) (e :: es) [] pos) (tCB r t) := by
 intro pins s σ H Q I h
 refine wpAny_Call_Name_kw (ld_blt I hg hm hv ?_ hn hdb)
 exact PyProof.Rows.callWith_builtin1 (thn (ha pos pins s σ H _ I h) fun us s1 ⟨vs, H1, I1, r1, q1⟩ => hc pins s1 σ H1 vs us Q I1 r1 q1) he hpl
theorem pe_callTy (hc : CallR X (.type T) r) (hg : Gl X x) (hm : X.mg x = none) (hv : bootBuiltins x = some (.type T)) (ha : PA X (e :: es) t) (hn : x ≠ "__name__" := by decide) (hdb : (x == ("__debug__" : Str)) = false := by decide)
  (he : starEach (e :: es) X.env = (false, eval e X.env) :: starEach es X.env := by rfl) (hpl : (backTo pos (starEach es X.env)).any (·.1) = false := by rfl) : PE X (.Call (.Name x p) (e :: es) [] pos) (tCB r t) := by
 intro pins s σ H Q I h
 refine wpAny_Call_Name_kw (ld_blt I hg hm hv ?_ hn hdb)
 exact PyProof.Rows.callWith_type1 (thn (ha pos pins s σ H _ I h) fun us s1 ⟨vs, H1, I1, r1, q1⟩ => hc pins s1 σ H1 vs us Q I1 r1 q1) he hpl
end
end L2
namespace HT
open PySem PyProof.Rows
section
open PySem.SeqAt
open PySem.AutoSeq1 (wpAny_loadPart')
open PySem.MeetsSeq PySem.MeetsSeq2 PySem.MeetsSeq3
end
section
variable {prog : Program} {w : World} {A : Around} {E : Value → Shared → Prop} {s : Shared}
def sIx (n d : Nat) : Option Int → Nat
 | none => d
 | some v => if v < 0 then (v + (n : Int)).toNat else min v.toNat n
theorem sIx_le (n d : Nat) (hd : d ≤ n) (o : Option Int) : sIx n d o ≤ n := by
 cases o with
 | none => exact hd
 | some v =>
  show (if v < 0 then (v + (n : Int)).toNat else min v.toNat n) ≤ n
  by_cases hv : v < 0
  ·rw [if_pos hv]; omega
  ·rw [if_neg hv]; exact Nat.min_le_right _ _
theorem clip_eq (v : Int) (n d : Nat) : (if v < 0 then max (v + (n : Int)) 0 else min v (n : Int)) = ((sIx n d (some v) : Nat) : Int) := by
 show (if v < 0 then max (v + (n : Int)) 0 else min v (n : Int)) = (((if v < 0 then (v + (n : Int)).toNat else min v.toNat n) : Nat) : Int)
 by_cases hv : v < 0
 ·simp only [if_pos hv]; omega
 ·simp only [if_neg hv]; omega
theorem adjust_gen (lo hi : Option Int) (n : Nat) : Builtin.Slice.sliceAdjust lo hi 1 (n : Int) = (((sIx n 0 lo : Nat) : Int), ((sIx n n hi : Nat) : Int)) := by
 have h1 : ¬ ((1 : Int) < 0) := by omega
 unfold Builtin.Slice.sliceAdjust
 simp only [h1, if_false]
 refine Prod.ext ?_ ?_
 ·cases lo with
  | none => rfl
  | some v => exact clip_eq v n 0
 ·cases hi with
  | none => rfl
  | some v => exact clip_eq v n n
theorem places_gen (i j : Nat) : Builtin.Slice.slicePlaces (i : Int) (j : Int) 1 = j - i := by
 unfold Builtin.Slice.slicePlaces
 have h1 : (1 : Int) > 0 := by omega
 simp only [h1, if_true, Int.ediv_one]
 split <;> omega
theorem slicePart_ {v : Value} {o : Option Int} {Q : Option Int → Shared → Prop} (p : IsPart v o) (h : Q o s) : wpAny (model prog w) A (Builtin.Slice.slicePartIndex v) Q E s := by
 cases p with
 | none => exact slicePart_none h
 | int i t => exact slicePart_int h
theorem sliceApplied_gen {sl : Addr} {vl vu : Value} {lo hi : Option Int} {n : Nat} {Q : Int × Int × Nat → Shared → Prop} (hs : s.heap.IsSliceOf sl vl vu .none) (pl : IsPart vl lo) (pu : IsPart vu hi)
  (h : Q (((sIx n 0 lo : Nat) : Int), 1, sIx n n hi - sIx n 0 lo) s) : wpAny (model prog w) A (Builtin.Slice.sliceApplied (.ref sl) (pure (n : Int))) Q E s := by
 obtain ⟨os, hos, hcs, hds⟩ := id hs
 unfold Builtin.Slice.sliceApplied Builtin.Slice.sliceFields
 refine wpAny_bind (wpAny_bind (wpAny_field hos hds (x := vl) rfl (wpAny_bind (wpAny_field hos hds (x := vu) rfl (wpAny_bind (wpAny_field hos hds (x := .none) rfl (wpAny_pure ?_)))))))
 refine wpAny_bind (slicePart_none ?_)
 show wpAny _ _ (if ((1 : Int) == 0) = true then _ else _) _ _ s
 rw [if_neg (by decide)]
 refine wpAny_bind (slicePart_ pl (wpAny_bind (slicePart_ pu (wpAny_bind (wpAny_pure ?_)))))
 show wpAny _ _ (match Builtin.Slice.sliceAdjust lo hi 1 (n : Int) with | (lo, hi) => pure (lo, (1 : Int), Builtin.Slice.slicePlaces lo hi 1)) _ _ s
 rw [adjust_gen lo hi n]
 show wpAny _ _ (pure (((sIx n 0 lo : Nat) : Int), (1 : Int), Builtin.Slice.slicePlaces ((sIx n 0 lo : Nat) : Int) ((sIx n n hi : Nat) : Int) 1)) _ _ s
 rw [places_gen]
 exact wpAny_pure h
theorem pick_gen (xs : Array Value) (i k : Nat) : ((List.range k).filterMap fun (m : Nat) => xs[((i : Int) + (m : Int) * 1).toNat]?).toArray = ((xs.toList.drop i).take k).toArray := by
 have e : (fun (m : Nat) => xs[((i : Int) + (m : Int) * 1).toNat]?) = fun m => xs[i + m]? := by
  funext m
  have : ((i : Int) + (m : Int) * 1).toNat = i + m := by omega
  rw [this]
 rw [e]
 have := pick_run xs i k
 rw [List.filterMap_map] at this
 have e2 : ((fun x => xs[x]?) ∘ fun x => i + x) = fun m => xs[i + m]? := rfl
 rw [e2] at this
 rw [this]
theorem getItem_tuple_cut {t sl : Addr} {items : Array Value} {vl vu : Value} {lo hi : Option Int} {Q : Value → Shared → Prop} (ht : IsTup s.heap t items) (hs : s.heap.IsSliceOf sl vl vu .none) (pl : IsPart vl lo) (pu : IsPart vu hi)
  (hw : ¬ (sIx items.size 0 lo = 0 ∧ sIx items.size items.size hi = items.size))
  (h : Q (.ref s.heap.objs.size) { s with heap := s.heap.push { cls := .type "tuple", data := .seq ((items.toList.drop (sIx items.size 0 lo)).take (sIx items.size items.size hi - sIx items.size 0 lo)).toArray } })
  (hsz : items.size ≤ sizeLine) : wpAny (model prog w) A (getItem (.ref t) (.ref sl)) Q E s := by
 have htake : sizeOk (.seq ((items.toList.drop (sIx items.size 0 lo)).take (sIx items.size items.size hi - sIx items.size 0 lo)).toArray) := by
  show ((items.toList.drop (sIx items.size 0 lo)).take (sIx items.size items.size hi - sIx items.size 0 lo)).toArray.size ≤ sizeLine
  rw [List.size_toArray, List.length_take, List.length_drop, Array.length_toList]
  omega
 have hj : sIx items.size items.size hi ≤ items.size := sIx_le _ _ (Nat.le_refl _) hi
 obtain ⟨os, hos, hcs, hds⟩ := id hs
 have hTs : s.TypeIs (.ref sl) "slice" := ⟨os, hos, hcs⟩
 unfold getItem
 try with_reducible refine wpAny_holding ?_
 first | refine wpAny_bind (wpAny_pure ?_) | skip
 refine wpAny_bind (wpAny_sequenceKey ht.typeIs (by decide) ?_)
 refine wpAny_bind (wpAny_callSpecial?_slot (name := Str.ofString "__getitem__") ht.typeIs PyProof.Rows.slot_tuple_getitem
  (wpAny_call_entry PyProof.Rows.slot_tuple_getitem ht.typeIs entry_tuple_getitem ?_ (args_tuple_getitem _ _)))
 show wpAny _ _ (Builtin.Tuple.tupleItemsOf (.ref t) >>= _) _ _ s
 refine wpAny_bind (tupleItemsOf_ ht ?_)
 refine wpAny_bind (wpAny_typeOf hTs ?_)
 rw [if_pos (by decide)]
 refine wpAny_bind (sliceApplied_gen hs pl pu ?_)
 have hno : ¬ ((((sIx items.size 0 lo : Nat) : Int) == 0 && (1 : Int) == 1 && (sIx items.size items.size hi - sIx items.size 0 lo) == items.size) = true) := by
  intro q
  rw [Bool.and_eq_true, Bool.and_eq_true] at q
  have q1 : ((sIx items.size 0 lo : Nat) : Int) = 0 := eq_of_beq q.1.1
  have q2 : sIx items.size items.size hi - sIx items.size 0 lo = items.size := eq_of_beq q.2
  exact hw ⟨by omega, by omega⟩
 show wpAny _ _ (if (((sIx items.size 0 lo : Nat) : Int) == 0 && (1 : Int) == 1 && (sIx items.size items.size hi - sIx items.size 0 lo) == items.size) = true then _ else _) _ _ s
 rw [if_neg hno, pick_gen]
 first
  | exact wpAny_bind (m := Builtin.Tuple.tupleExact _) (wpAny_newObj_type (wpAny_pure ⟨_, rfl, wpAny_pure h⟩) htake)
  | exact wpAny_bind (m := Builtin.Tuple.tupleExact _) (wpAny_newObj_type (wpAny_bind (wpAny_pure (wpAny_pure ⟨_, rfl, wpAny_pure h⟩))) htake)
  | exact wpAny_bind (wpAny_bind (m := Builtin.Tuple.tupleExact _) (wpAny_newObj_type (wpAny_pure (wpAny_pure ⟨_, rfl, wpAny_pure h⟩)) htake))
  | exact wpAny_bind (wpAny_bind (m := Builtin.Tuple.tupleExact _) (wpAny_newObj_type (wpAny_pure ⟨_, rfl, wpAny_pure h⟩) htake))
end
end HT
namespace L2
open PySem PySem.Spec PyProof.Rows
abbrev TO := St → Hp → (Option Int → Hp → Prop) → Prop
def PO (X : Cx) (e : Option Expr) (t : TO) : Prop :=
 ∀ (pins : List (Addr × Obj)) (s : Shared) (σ : St) (H : Hp) (Q : Option Int → Hp → Prop), Inv X pins σ H s → t σ H Q →
  wpAny (model X.prog X.w) X.A (evalPart e X.env) (fun u s' => ∃ o H', Inv X pins σ H' s' ∧ IsPart u o ∧ Q o H') X.xe s
def tNoPart : TO := fun _ H Q => Q none H
def tPart (t : TE) : TO := fun σ H Q => t σ H fun x H1 => ∃ i, x = .int i ∧ Q (some i) H1
section
variable {X : Cx} {e : Expr} {te : TE} {lo hi : Option Expr} {tl th : TO} {pos p2 : Pos}
theorem po_none : PO X none tNoPart := by
 intro pins s σ H Q I h
 rw [evalPart_none]
 exact wpAny_pure ⟨none, H, I, .none, h⟩
theorem po_some (h : PE X e te) : PO X (some e) (tPart te) := by
 intro pins s σ H Q I hw
 rw [evalPart_some]
 refine thn (h pins s σ H _ I hw) fun u s1 ⟨x, H1, I1, r1, q1⟩ => ?_
 obtain ⟨i, rfl, q⟩ := q1
 obtain ⟨t, rfl⟩ := r1
 exact ⟨some i, H1, I1, .int i t, q⟩
def SlR (X : Cx) (r : V → Option Int → Option Int → Hp → VK → Prop) : Prop :=
 ∀ (pins : List (Addr × Obj)) (s : Shared) (σ : St) (H : Hp) (x : V) (v vl vu : Value) (lo hi : Option Int) (sl : Addr) (Q : VK), Inv X pins σ H s → RelV x v → s.heap.IsSliceOf sl vl vu .none → IsPart vl lo → IsPart vu hi → r x lo hi H Q →
  ∃ T id, typeLookup (.type T) "__getitem__" = pure (some (.builtin id)) ∧ s.TypeIs v T ∧ wpAny (model X.prog X.w) X.A (getItem v (.ref sl)) (EP X pins σ Q) X.xe s
def tSl (r : V → Option Int → Option Int → Hp → VK → Prop) (te : TE) (tl th : TO) : TE := fun σ H Q => te σ H fun x H1 => tl σ H1 fun l H2 => th σ H2 fun u H3 => r x l u H3 Q
theorem pe_slice {r : V → Option Int → Option Int → Hp → VK → Prop} (hr : SlR X r) (he : PE X e te) (hl : PO X lo tl) (hu : PO X hi th) : PE X (.Subscript e (.Slice lo hi none p2) pos) (tSl r te tl th) := by
 intro pins s σ H Q I h
 refine Subscript_ (thn (he pins s σ H _ I h) fun v s1 ⟨x, H1, I1, r1, q1⟩ => ?_)
 refine wpAny_Slice (thn (hl pins s1 σ H1 _ I1 q1) fun vl s2 ⟨l, H2, I2, pl, q2⟩ => thn (hu pins s2 σ H2 _ I2 q2) fun vu s3 ⟨u, H3, I3, pu, q3⟩ => ?_)
 rw [evalPart_none]
 refine wpAny_pure ?_
 have I4 : Inv X pins σ H3 { s3 with heap := s3.heap.push { cls := .type "slice", data := .fields #[vl, vu, .none] } } := I3.kept (t' := s3.toks) fun b ob q => Heap.get?_push_of_some _ q
 obtain ⟨T, id, hT, ht, hg⟩ := hr pins { s3 with heap := s3.heap.push { cls := .type "slice", data := .fields #[vl, vu, .none] } } σ H3 x v vl vu l u s3.heap.objs.size Q I4 r1 (Heap.IsSliceOf.new ..) pl pu q3
 show wpAny (model X.prog X.w) X.A (subscriptTail e (.Slice lo hi none p2) v (.ref s3.heap.objs.size)) (EP X pins σ Q) X.xe { s3 with heap := s3.heap.push { cls := .type "slice", data := .fields #[vl, vu, .none] } }
 exact tail_any (ops := [.ref s3.heap.objs.size, v]) ht hT hg (by with_unfolding_all rfl)
def cutV (xs : List V) (lo hi : Option Int) : List V := (xs.drop (HT.sIx xs.length 0 lo)).take (HT.sIx xs.length xs.length hi - HT.sIx xs.length 0 lo)
theorem cutV_length (xs : List V) (lo hi : Option Int) : (cutV xs lo hi).length ≤ xs.length := by
 unfold cutV
 rw [List.length_take, List.length_drop]
 omega
def rSlT (K : PySem.W.Frag) : V → Option Int → Option Int → Hp → VK → Prop := fun x lo hi H Q => ∃ a xs, x = .ref a ∧ SqT K H a xs ∧
 ¬ (HT.sIx xs.length 0 lo = 0 ∧ HT.sIx xs.length xs.length hi = xs.length) ∧ ∀ p, H p = none → Q (.ref p) (upd H p (.tup (cutV xs lo hi)))
theorem sl_tup : SlR X (rSlT X.K) := by
 intro pins s σ H x v vl vu lo hi sl Q I rx hs pl pu h
 obtain ⟨a, xs, rfl, hx, hw, q⟩ := h
 cases rx
 obtain ⟨its, r, ht, hz⟩ := I.tuple hx
 have hlen : its.toArray.size = xs.length := by rw [List.size_toArray]; exact r.length.symm
 refine ⟨"tuple", _, PyProof.Rows.slot_tuple_getitem.lookup, ht.typeIs, ?_⟩
 refine HT.getItem_tuple_cut ht hs pl pu (by rw [hlen]; exact hw) ?_ (by rw [hlen]; exact hz)
 rw [hlen]
 refine ⟨.ref s.heap.objs.size, _, I.laid (t' := s.toks) (o := .tup (cutV xs lo hi)) (fun b ob q => Heap.get?_push_of_some _ q) (Nat.le_refl _) ?_, rfl, q _ (I.hok.fresh (Nat.le_refl _))⟩
 exact ⟨Nat.le_trans (cutV_length xs lo hi) hz, _, (r.drop (HT.sIx xs.length 0 lo)).take (HT.sIx xs.length xs.length hi - HT.sIx xs.length 0 lo), IsTup.new _ _⟩
end
end L2
namespace L2
open PySem PySem.Spec PyProof.Rows
def ixN (n : Nat) (i : Int) : Option Nat := if 0 ≤ i then (if i < n then some i.toNat else none) else if -(n : Int) ≤ i then some (i + n).toNat else none
def atI {α : Type} (xs : List α) (i : Int) : Option α := (ixN xs.length i).bind fun j => xs[j]?
theorem ixN_seq {n : Nat} {i : Int} {j : Nat} (h : ixN n i = some j) : seqIndex? i n = some j ∧ j < n ∧ -(n : Int) ≤ i ∧ i < n := by
 unfold ixN at h
 by_cases h0 : 0 ≤ i
 ·rw [if_pos h0] at h
  by_cases h1 : i < n
  ·rw [if_pos h1] at h
   have e : i.toNat = j := Option.some.inj h
   exact ⟨by rw [seqIndex_of h0 h1, e], by omega, by omega, h1⟩
  ·rw [if_neg h1] at h; cases h
 ·rw [if_neg h0] at h
  by_cases h1 : -(n : Int) ≤ i
  ·rw [if_pos h1] at h
   have e : (i + n).toNat = j := Option.some.inj h
   exact ⟨by rw [seqIndex_neg (by omega) h1, e], by omega, h1, by omega⟩
  ·rw [if_neg h1] at h; cases h
theorem atI_get {α : Type} {xs : List α} {i : Int} {v : α} (h : atI xs i = some v) : ∃ j, seqIndex? i xs.length = some j ∧ xs[j]? = some v ∧ j < xs.length ∧ -(xs.length : Int) ≤ i ∧ i < xs.length := by
 unfold atI at h
 cases e : ixN xs.length i with
 | none => rw [e] at h; cases h
 | some j =>
  rw [e] at h
  obtain ⟨h1, h2, h3, h4⟩ := ixN_seq e
  exact ⟨j, h1, h, h2, h3, h4⟩
theorem atI_nat {α : Type} {xs : List α} {j : Nat} {v : α} (h : xs[j]? = some v) : atI xs (j : Int) = some v := by
 have hj : j < xs.length := (List.getElem?_eq_some_iff.mp h).1
 have e : ixN xs.length (j : Int) = some j := by
  unfold ixN
  rw [if_pos (by omega), if_pos (by omega)]; simp
 unfold atI; rw [e]; exact h
def PlainIx (b : Expr) : Prop := ∀ o i, subscripted b false o i = operate [o, i] (getItem o i)
def IxR (X : Cx) (r : R2) : Prop :=
 ∀ (value slice : Expr) (pins : List (Addr × Obj)) (s : Shared) (σ : St) (H : Hp) (x y : V) (v u : Value) (Q : VK), Inv X pins σ H s → RelV x v → RelV y u → r x y H Q →
  subscripted slice false v u = operate [v, u] (getItem v u) → wpAny (model X.prog X.w) X.A (subscriptTail value slice v u) (EP X pins σ Q) X.xe s
def MtR (X : Cx) (id : String) (r : V → List V → Hp → VK → Prop) : Prop :=
 ∀ (pins : List (Addr × Obj)) (s : Shared) (σ : St) (H : Hp) (x : V) (xs : List V) (v : Value) (us : List Value) (Q : VK), Inv X pins σ H s → RelV x v → Vals xs us → r x xs H Q →
  wpAny (model X.prog X.w) X.A (call (.builtin id) (v :: us)) (EP X pins σ Q) X.xe s
section
variable {X : Cx} {a b : Expr} {ta tb : TE} {pos : Pos}
theorem pe_ix {r : R2} (hr : IxR X r) (ha : PE X a ta) (hb : PE X b tb) (hs : PlainIx b) : PE X (.Subscript a b pos) (tOp r ta tb) := by
 intro pins s σ H Q I h
 exact Subscript_ (binT ha hb I h fun v u s2 x y H2 I2 rx ry q => hr a b pins s2 σ H2 x y v u Q I2 rx ry q (hs _ _))
def rIxL (K : PySem.W.Frag) : R2 := fun x y H Q => ∃ p xs i v, x = .ref p ∧ y = .int i ∧ SqL K H p xs ∧ atI xs i = some v ∧ Q v H
def rIxT (K : PySem.W.Frag) : R2 := fun x y H Q => ∃ p xs i v, x = .ref p ∧ y = .int i ∧ SqT K H p xs ∧ atI xs i = some v ∧ Q v H
def rIxS : R2 := fun x y H Q => ∃ z i c, x = .str z ∧ y = .int i ∧ z.length ≤ sizeLine ∧ atI z.cps.toList i = some c ∧ Q (.str ⟨#[c]⟩) H
theorem ix_list : IxR X (rIxL X.K) := by
 intro value slice pins s σ H x y v u Q I rx ry h hs
 obtain ⟨p, xs, i, z, rfl, rfl, hq, he, q⟩ := h
 cases rx
 obtain ⟨t, rfl⟩ := ry
 obtain ⟨its, r, pl, hz⟩ := I.list hq
 obtain ⟨j, h1, h2, h3, h4, h5⟩ := atI_get he
 obtain ⟨w, ew, rw'⟩ := r.get h2
 have hl := r.length
 have hn := line63
 have fin : EP X pins σ Q w s := ⟨z, H, I, rw', q⟩
 by_cases h0 : 0 ≤ i
 ·have hj : i.toNat = j := by
   rw [seqIndex_of h0 h5] at h1
   exact Option.some.inj h1
  exact item_listR pl.isList h0 (by omega) (by rw [hj]; simpa using ew) fin hs
 ·have hj : (i + (its.toArray.size : Int)).toNat = j := by
   rw [seqIndex_neg (by omega) h4] at h1
   rw [List.size_toArray, ← hl]
   exact Option.some.inj h1
  exact subscriptTail_builtinR (x := w) pl.isList.typeIs slot_list_getitem.lookup
   (wpAny_getItem_list_neg (Q := fun r s' => r = w ∧ EP X pins σ Q r s') pl.isList (by omega) (by rw [List.size_toArray] <;> omega) (by omega) (by rw [hj]; simpa using ew) ⟨rfl, fin⟩) hs
theorem ix_tup : IxR X (rIxT X.K) := by
 intro value slice pins s σ H x y v u Q I rx ry h hs
 obtain ⟨p, xs, i, z, rfl, rfl, hq, he, q⟩ := h
 cases rx
 obtain ⟨t, rfl⟩ := ry
 obtain ⟨its, r, pl, hz⟩ := I.tuple hq
 obtain ⟨j, h1, h2, h3, h4, h5⟩ := atI_get he
 obtain ⟨w, ew, rw'⟩ := r.get h2
 have hl := r.length
 have hn := line63
 have fin : EP X pins σ Q w s := ⟨z, H, I, rw', q⟩
 exact subscriptTail_builtinR (x := w) pl.typeIs slot_tuple_getitem.lookup
  (getItem_tuple (j := j) (Q := fun r s' => r = w ∧ EP X pins σ Q r s') pl (by omega) (by omega) (by rw [List.size_toArray, ← hl]; exact h1) (by simpa using ew) ⟨rfl, fin⟩) hs
theorem ix_str : IxR X rIxS := by
 intro value slice pins s σ H x y v u Q I rx ry h hs
 obtain ⟨z, i, c, rfl, rfl, hz, he, q⟩ := h
 obtain ⟨t, rfl⟩ := rx
 obtain ⟨t', rfl⟩ := ry
 obtain ⟨j, h1, h2, h3, h4, h5⟩ := atI_get he
 have hl : z.cps.toList.length = z.length := by simp [Str.length]
 rw [hl] at h1 h4 h5
 have hn := line63
 exact tail_any (typeIs_str s z t) slot_str_getitem.lookup (getItem_str (c := c) (by
  have e1 : decide (i < -(2 ^ 63 : Int)) = false := decide_eq_false (by omega)
  have e2 : decide (i ≥ 2 ^ 63) = false := decide_eq_false (by omega)
  rw [e1, e2, Bool.or_false]) (by rw [h1]; simpa using h2) ⟨.str ⟨#[c]⟩, H, I.tok _, ⟨_, rfl⟩, q⟩) hs
theorem mapSeq_set (its : List Value) (n j : Nat) (u : Value) : Obj.mapSeq (·.setIfInBounds j u) { cls := .type "list", data := .seq its.toArray n } = { cls := .type "list", data := .seq (its.set j u).toArray n } := by
 simp [Obj.mapSeq]
theorem Inv.lst {pins : List (Addr × Obj)} {σ : St} {H : Hp} {s : Shared} {p : Addr} {xs : List V} (I : Inv X pins σ H s) (h : H p = some (.lst xs)) :
  ∃ (its : List Value) (n : Nat), Vals xs its ∧ s.heap.get? p = some { cls := .type "list", data := .seq its.toArray n } ∧ xs.length ≤ sizeLine := by
 obtain ⟨z, its, n, r, e⟩ := I.hok p _ h
 exact ⟨its, n, r, e, z⟩
theorem Inv.lstUpd {pins : List (Addr × Obj)} {σ : St} {H : Hp} {s : Shared} {p : Addr} {xs ys : List V} {its its' : List Value} {n n' : Nat} {f : Obj → Obj} (I : Inv X pins σ H s) (h : H p = some (.lst xs))
  (ho : s.heap.get? p = some { cls := .type "list", data := .seq its.toArray n }) (hf : f { cls := .type "list", data := .seq its.toArray n } = { cls := .type "list", data := .seq its'.toArray n' }) (r : Vals ys its') (hz : ys.length ≤ sizeLine) (t : Nat) :
  Inv X pins σ (upd H p (.lst ys)) { s with heap := s.heap.update p f, toks := t } := by
 have e : (s.heap.update p f).get? p = some { cls := .type "list", data := .seq its'.toArray n' } := by
  rw [Heap.get?_update_self f ho (by rw [hf] <;> rfl), hf]
 refine I.write (x := p) (e := p) (by rw [h]; trivial) (.inl rfl) (fun b u hb q => (Heap.get?_update_other _ _ (Ne.symm hb)).trans q) ⟨_, e⟩ ?_
 exact ⟨hz, its', n', r, e⟩
def rSetL : V → V → V → Hp → (Hp → Prop) → Prop := fun o i v H Q => ∃ p xs k j, o = .ref p ∧ i = .int k ∧ H p = some (.lst xs) ∧ ixN xs.length k = some j ∧ Q (upd H p (.lst (xs.set j v)))
theorem set_list : PSet X rSetL := by
 intro pins s σ H o i v ov iv u Q I ro ri rv h
 obtain ⟨p, xs, k, j, rfl, rfl, hp, hj, q⟩ := h
 cases ro
 obtain ⟨t, rfl⟩ := ri
 obtain ⟨its, n, r, ho, hz⟩ := I.lst hp
 obtain ⟨h1, h2, h3, h4⟩ := ixN_seq hj
 have hl := r.length
 have hn := line63
 have I' : Inv X pins σ (upd H p (.lst (xs.set j v))) { s with heap := s.heap.update p (Obj.mapSeq (·.setIfInBounds j u)) } :=
  I.lstUpd hp ho (mapSeq_set its n j u) (r.set rv j) (by rw [List.length_set]; exact hz) s.toks
 by_cases h0 : 0 ≤ k
 ·have hk : k.toNat = j := by
   rw [seqIndex_of h0 h4] at h1
   exact Option.some.inj h1
  exact PySem.W.ki_setAt ho h0 (by omega) (by rw [List.size_toArray, ← hl]; exact h4) (by rw [hk]; exact ⟨_, I', q⟩)
 ·have hk : (k + (its.toArray.size : Int)).toNat = j := by
   rw [seqIndex_neg (by omega) h3] at h1
   rw [List.size_toArray, ← hl]
   exact Option.some.inj h1
  exact PySem.W.ki_setBack ho (by omega) (by rw [List.size_toArray, ← hl]; exact h3) (by omega) (by rw [hk]; exact ⟨_, I', q⟩)
def flatV : V → Bool
 | .non => true
 | .bl _ => true
 | .int _ => true
 | .str _ => true
 | _ => false
def eqV : V → V → Bool
 | .non, .non => true
 | .bl a, .bl b => a == b
 | .bl a, .int b => (if a then 1 else 0) == b
 | .int a, .bl b => a == (if b then 1 else 0)
 | .int a, .int b => a == b
 | .str a, .str b => a == b
 | _, _ => false
theorem eqAt_V {A : Around} {s : Shared} {y x : V} {u v : Value} (ry : RelV y u) (rx : RelV x v) (fy : flatV y = true) (fx : flatV x = true) : SeqAt.EqAt A s u v (eqV y x) := by
 cases y with
 | non =>
  cases ry
  cases x with
  | non => cases rx; exact SeqAt.EqAt.same _
  | bl b => cases rx; exact SeqAt.EqAt.none_bool b
  | int b => obtain ⟨t, rfl⟩ := rx; exact SeqAt.EqAt.none_int b t
  | str b => obtain ⟨t, rfl⟩ := rx; exact SeqAt.EqAt.none_str b t
  | _ => exact absurd (show false = true from fx) Bool.false_ne_true
 | bl a =>
  cases ry
  cases x with
  | non => cases rx; exact SeqAt.EqAt.bool_none a
  | bl b => cases rx; exact SeqAt.EqAt.bool_bool a b
  | int b => obtain ⟨t, rfl⟩ := rx; exact SeqAt.EqAt.bool_int a b t
  | str b => obtain ⟨t, rfl⟩ := rx; exact SeqAt.EqAt.bool_str a b t
  | _ => exact absurd (show false = true from fx) Bool.false_ne_true
 | int a =>
  obtain ⟨t', rfl⟩ := ry
  cases x with
  | non => cases rx; exact SeqAt.EqAt.int_none a t'
  | bl b => cases rx; exact SeqAt.EqAt.int_bool a t' b
  | int b => obtain ⟨t, rfl⟩ := rx; exact SeqAt.EqAt.int_int a t' b t
  | str b => obtain ⟨t, rfl⟩ := rx; exact SeqAt.EqAt.int_str a t' b t
  | _ => exact absurd (show false = true from fx) Bool.false_ne_true
 | str a =>
  obtain ⟨t', rfl⟩ := ry
  cases x with
  | non => cases rx; exact SeqAt.EqAt.str_none a t'
  | bl b => cases rx; exact SeqAt.EqAt.str_bool a t' b
  | int b => obtain ⟨t, rfl⟩ := rx; exact SeqAt.EqAt.str_int a t' b t
  | str b => obtain ⟨t, rfl⟩ := rx; exact SeqAt.EqAt.str_str a t' b t
  | _ => exact absurd (show false = true from fx) Bool.false_ne_true
 | _ => exact absurd (show false = true from fy) Bool.false_ne_true
theorem call_len_seq : CallR X (.builtin "len") (fun xs H Q => ∃ p ys, xs = [.ref p] ∧ (SqL X.K H p ys ∨ SqT X.K H p ys) ∧ Q (.int ys.length) H) := by
 intro pins s σ H xs us Q I r h
 obtain ⟨p, ys, rfl, hq, q⟩ := h
 obtain ⟨u, rfl, rx⟩ := vals1 r
 cases rx
 have hn := line63
 rcases hq with hq | hq
 ·obtain ⟨its, r', pl, hz⟩ := I.list hq
  have hlen := r'.length
  exact Calls.call_len_list pl.isList (by simp only [List.size_toArray] <;> omega) ⟨.int ys.length, H, I.tok _, ⟨s.toks + 1, by rw [List.size_toArray, hlen]⟩, q⟩
 ·obtain ⟨its, r', pl, hz⟩ := I.tuple hq
  have hlen := r'.length
  exact len_tuple pl (by simp only [List.size_toArray] <;> omega) ⟨.int ys.length, H, I.tok _, ⟨s.toks + 1, by rw [List.size_toArray, hlen]⟩, q⟩
def tyV (K : PySem.W.Frag) (T : String) (x : V) (H : Hp) : Prop := match x with
 | .str _ => T = "str"
 | .int _ => T = "int"
 | .ref p => (T = "list" ∧ ∃ xs, SqL K H p xs) ∨ (T = "tuple" ∧ ∃ o, K.lookup p = some o ∧ o.cls = .type "tuple" ∧ o.dict = none) ∨
   (T = "dict" ∧ ((∃ kvs, H p = some (.dK kvs)) ∨ ∃ kvs, H p = some (.dT kvs))) ∨ (T = "set" ∧ ∃ S n, H p = some (.set S n))
 | _ => False
theorem tyV_is {pins : List (Addr × Obj)} {σ : St} {H : Hp} {s : Shared} {T : String} {x : V} {v : Value} (I : Inv X pins σ H s) (r : RelV x v) (ty : tyV X.K T x H) :
  s.TypeIs v T ∧ ∀ a, v = .ref a → ∃ ob, s.heap.get? a = some ob ∧ ob.dict = none := by
 cases x with
 | str z =>
  obtain ⟨t, rfl⟩ := r
  cases (show T = "str" from ty)
  exact ⟨typeIs_str s z t, fun _ e => nomatch e⟩
 | int i =>
  obtain ⟨t, rfl⟩ := r
  cases (show T = "int" from ty)
  exact ⟨typeIs_int s i t, fun _ e => nomatch e⟩
 | ref p =>
  cases r
  rcases ty with ⟨rfl, xs, hq⟩ | ⟨rfl, o, hk, hc, hd⟩ | ⟨rfl, hk⟩ | ⟨rfl, S, n, hk⟩
  ·obtain ⟨its, _, pl, _⟩ := I.list hq
   refine ⟨pl.isList.typeIs, fun a e => ?_⟩
   cases e
   obtain ⟨o, n, e, c, hd, _⟩ := pl
   exact ⟨o, e, hd⟩
  ·refine ⟨⟨o, I.kIn p o hk, hc⟩, fun a e => ?_⟩
   cases e
   exact ⟨o, I.kIn _ o hk, hd⟩
  ·have z : ∃ o, s.heap.get? p = some o ∧ o.ExactDict := by
    rcases hk with ⟨kvs, hk⟩ | ⟨kvs, hk⟩
    ·obtain ⟨_, _, _, _, o, _, _, e, ex, _⟩ := I.hok p _ hk
     exact ⟨o, e, ex⟩
    ·obtain ⟨_, _, _, _, o, _, _, e, ex, _⟩ := I.hok p _ hk
     exact ⟨o, e, ex⟩
   obtain ⟨o, e, ex⟩ := z
   refine ⟨⟨o, e, ex.1⟩, fun a e2 => ?_⟩
   cases e2
   exact ⟨o, e, ex.2.1⟩
  ·obtain ⟨o, _, _, _, e, ex, _⟩ := I.hok p _ hk
   refine ⟨⟨o, e, ex.1⟩, fun a e2 => ?_⟩
   cases e2
   exact ⟨o, e, ex.2.1⟩
 | _ => exact False.elim ty
def tBM (K : PySem.W.Frag) (T : String) (r : V → List V → Hp → VK → Prop) (to : TE) (t : TA) : TE := fun σ H Q => to σ H fun x H1 => tyV K T x H1 ∧ t σ H1 fun xs H2 => r x xs H2 Q
variable {o e : Expr} {es : List Expr} {to : TE} {t : TA} {name : Str} {apos cpos : Pos} {T id : String} {r : V → List V → Hp → VK → Prop}
theorem pe_bm (pa : PlainAttrs T) (slot : Slot T name id) (hty : typeOf (.builtin id) = pure (.type "method_descriptor")) (hm : MtR X id r) (ho : PE X o to) (ha : PA X (e :: es) t)
  (hbase : attributeBase o name X.env (eval o X.env) = eval o X.env := by rfl)
  (hfew : ((backTo cpos (starEach (e :: es) X.env)).all (fun x => !x.1) && (backToKw cpos (keywordEach [] X.env)).all (fun x => x.1.isSome)
   && decide ((e :: es).length + ([] : List Keyword).length + (if ([] : List Keyword).isEmpty then 0 else 1) < 30)) = true := by rfl)
  (hline : (apos.endLine == cpos.line) = true := by rfl) (hs : starEach (e :: es) X.env = (false, eval e X.env) :: starEach es X.env := by rfl) (hplain : (backTo cpos (starEach es X.env)).any (·.1) = false := by rfl) :
  PE X (.Call (.Attribute o name apos) (e :: es) [] cpos) (tBM X.K T r to t) := by
 intro pins s σ H Q I h
 refine wpAny_Call_method_late hbase hfew hline rfl (thn (ho pins s σ H _ I h) fun v s1 ⟨x, H1, I1, r1, ty, q1⟩ => ?_)
 obtain ⟨h1, h2⟩ := tyV_is I1 r1 ty
 refine ⟨T, id, pa, slot, hty, h1, h2, ?_⟩
 have hA := ha cpos pins s1 σ H1 _ I1 q1
 rw [hs] at hA ⊢
 refine Calls.callWith_builtin (by show (false || (backTo cpos (starEach es X.env)).any (·.1)) = false; rw [hplain] <;> rfl) (Calls.evalArgs_plain ?_)
 exact thn hA fun us s2 ⟨vs, H2, I2, r2, q2⟩ => hm pins s2 σ H2 x vs v us Q I2 r1 r2 q2
end
end L2
namespace L2
open PySem PySem.Spec PyProof.Rows
def MtM (X : Cx) (id : String) (r : V → List V → Hp → VK → Prop) : Prop :=
 ∀ (pins : List (Addr × Obj)) (s : Shared) (σ : St) (H : Hp) (x : V) (xs : List V) (v : Value) (us : List Value) (Q : VK), Inv X pins σ H s → RelV x v → Vals xs us → r x xs H Q →
  wpAny (model X.prog X.w) X.A (call (.builtin id) (v :: us)) (EP X pins σ Q) X.xe s
theorem Vals.one : ∀ {x : V} {us : List Value}, Vals [x] us → ∃ u, us = [u] ∧ RelV x u
 | _, _, .cons r .nil => ⟨_, rfl, r⟩
theorem Vals.eraseIdx : ∀ {xs : List V} {us : List Value} (i : Nat), Vals xs us → Vals (xs.eraseIdx i) (us.eraseIdx i)
 | _, _, _, .nil => .nil
 | _, _, 0, .cons _ t => t
 | _, _, i + 1, .cons r t => .cons r (Vals.eraseIdx i t)
theorem len_erase {α : Type} : ∀ (l : List α) (i : Nat), (l.eraseIdx i).length ≤ l.length
 | [], _ => Nat.le_refl _
 | _ :: _, 0 => Nat.le_succ _
 | _ :: r, i + 1 => Nat.succ_le_succ (len_erase r i)
section
variable {X : Cx} {pins : List (Addr × Obj)} {σ : St} {H : Hp} {s : Shared} {l b : Addr} {xs ys zs : List V}
theorem Inv.lset {its its' : List Value} {n : Nat} {f : Array Value → Array Value} {t' : Nat} (I : Inv X pins σ H s) (hH : H l = some (.lst xs))
  (e : s.heap.get? l = some { cls := .type "list", data := .seq its.toArray n }) (hf : f its.toArray = its'.toArray) (hv : Vals ys its') (hz : ys.length ≤ sizeLine) :
  Inv X pins σ (upd H l (.lst ys)) { s with heap := s.heap.update l (Obj.mapSeq f), toks := t' } := by
 have q := PySem.IsL.update e f
 rw [hf] at q
 refine I.write (x := l) (e := l) (by rw [hH]; exact trivial) (.inl rfl) (fun b' u hb hu => (Heap.get?_update_other s.heap (Obj.mapSeq f) (Ne.symm hb)).trans hu) ⟨_, q⟩ ?_
 exact ⟨hz, its', _, hv, q⟩
theorem Inv.lnew {its : List Value} {t' : Nat} (I : Inv X pins σ H s) (hv : Vals ys its) (hz : ys.length ≤ sizeLine) :
  Inv X pins σ (upd H s.heap.objs.size (.lst ys)) { s with heap := s.heap.push { cls := .type "list", data := .seq its.toArray }, toks := t' } :=
 I.laid (fun _ _ q => Heap.get?_push_of_some _ q) (Nat.le_refl _) ⟨hz, its, 0, hv, Heap.get?_push_size _ rfl⟩
theorem Inv.fresh (I : Inv X pins σ H s) : H s.heap.objs.size = none := I.hok.fresh (Nat.le_refl _)
theorem Inv.lstM (I : Inv X pins σ H s) (hH : H l = some (.lst xs)) : xs.length ≤ sizeLine ∧ ∃ (its : List Value) (n : Nat), Vals xs its ∧ xs.length = its.length ∧ s.heap.get? l = some { cls := .type "list", data := .seq its.toArray n } := by
 obtain ⟨z, its, n, r, e⟩ := I.hok l _ hH
 exact ⟨z, its, n, r, r.length, e⟩
theorem notLongL {n : Nat} (h : n ≤ sizeLine) : Builtin.List.listTooLong n = false := by
 unfold Builtin.List.listTooLong
 exact decide_eq_false (by omega)
end
section
variable {X : Cx}
def rAppend : V → List V → Hp → VK → Prop := fun x vs H Q => ∃ l xs y, x = .ref l ∧ vs = [y] ∧ H l = some (.lst xs) ∧ xs.length < sizeLine ∧ Q .non (upd H l (.lst (xs ++ [y])))
theorem mt_append : MtM X "list.append" rAppend := by
 intro pins s σ H x vs v us Q I rx rv h
 obtain ⟨l, xs, y, rfl, rfl, hH, hz, q⟩ := h
 cases rx
 obtain ⟨u, rfl, ru⟩ := rv.one
 obtain ⟨z, its, n, r, hl, e⟩ := I.lstM hH
 refine call_meets F.slot_list_append ⟨_, e, rfl⟩ F.entry_list_append (F.args_list_append_2 _ _) (PySem.list_append l its.toArray n u (by rw [List.size_toArray]; omega)) ⟨e, ?_⟩
 refine ⟨.non, _, I.lset (its' := its ++ [u]) hH e (by simp) (r.append (.cons ru .nil)) ?_, rfl, q⟩
 rw [List.length_append, List.length_singleton]
 omega
def rExtend : V → List V → Hp → VK → Prop := fun x vs H Q => ∃ l b xs zs, x = .ref l ∧ vs = [.ref b] ∧ H l = some (.lst xs) ∧ H b = some (.lst zs) ∧ xs.length + zs.length ≤ sizeLine ∧ Q .non (upd H l (.lst (xs ++ zs)))
theorem mt_extend : MtM X "list.extend" rExtend := by
 intro pins s σ H x vs v us Q I rx rv h
 obtain ⟨l, b, xs, zs, rfl, rfl, hH, hB, hz, q⟩ := h
 cases rx
 obtain ⟨u, rfl, ru⟩ := rv.one
 cases ru
 obtain ⟨z, its, n, r, hl, e⟩ := I.lstM hH
 obtain ⟨z2, its2, n2, r2, hl2, e2⟩ := I.lstM hB
 have hsz : its.toArray.size + its2.toArray.size ≤ sizeLine := by rw [List.size_toArray, List.size_toArray]; omega
 have hlong : ¬ (!its.toArray.isEmpty && Builtin.List.listTooLong (its.toArray.size + its2.toArray.size)) = true := by
  rw [notLongL hsz, Bool.and_false]
  exact Bool.false_ne_true
 refine call_meets F.slot_list_extend ⟨_, e, rfl⟩ F.entry_list_extend (F.args_list_extend_2 _ _)
  (AutoSeq1.list_extend_list_list_0 l its.toArray n b its2.toArray n2 hlong (by rw [List.size_toArray]; omega) (by omega)) ⟨e, e2, ?_⟩
 refine ⟨.non, _, I.lset (its' := its ++ its2) hH e (by simp) (r.append r2) ?_, rfl, q⟩
 rw [List.length_append]
 omega
def rPopAt : V → List V → Hp → VK → Prop := fun x vs H Q => ∃ l xs i k y, x = .ref l ∧ vs = [.int i] ∧ H l = some (.lst xs) ∧ -(2 ^ 63) ≤ i ∧ i < 2 ^ 63 ∧ seqIndex? i xs.length = some k ∧ xs[k]? = some y ∧ Q y (upd H l (.lst (xs.eraseIdx k)))
theorem mt_popAt : MtM X "list.pop" rPopAt := by
 intro pins s σ H x vs v us Q I rx rv h
 obtain ⟨l, xs, i, k, y, rfl, rfl, hH, h1, h2, hk, hy, q⟩ := h
 cases rx
 obtain ⟨u, rfl, ru⟩ := rv.one
 obtain ⟨t, rfl⟩ := ru
 obtain ⟨z, its, n, r, hl, e⟩ := I.lstM hH
 obtain ⟨w, hw, rw'⟩ := r.get hy
 refine call_meets F.slot_list_pop ⟨_, e, rfl⟩ F.entry_list_pop (F.args_list_pop_2 _ _)
  (MeetsSeq.list_pop_at l its.toArray n i t k w (fitsIndex_both h1 h2) (by rw [List.size_toArray, ← hl]; exact hk) (by rw [← Array.getElem?_toList]; exact hw) (by rw [List.size_toArray]; omega)) ⟨e, ?_⟩
 refine ⟨y, _, I.lset (its' := its.eraseIdx k) hH e ?_ (r.eraseIdx k) ?_, rw', q⟩
 ·show its.toArray.eraseIdxIfInBounds k = (its.eraseIdx k).toArray
  rw [List.eraseIdxIfInBounds_toArray]
 ·have := len_erase xs k
  omega
def rCat : R2 := fun x y H Q => ∃ l b xs zs, x = .ref l ∧ y = .ref b ∧ H l = some (.lst xs) ∧ H b = some (.lst zs) ∧ xs.length + zs.length ≤ sizeLine ∧ ∀ p, H p = none → Q (.ref p) (upd H p (.lst (xs ++ zs)))
theorem op_cat : OpR X (binaryOp .Add) rCat := by
 intro pins s σ H x y v u Q I rx ry h
 obtain ⟨l, b, xs, zs, rfl, rfl, hH, hB, hz, q⟩ := h
 cases rx
 cases ry
 obtain ⟨z, its, n, r, hl, e⟩ := I.lstM hH
 obtain ⟨z2, its2, n2, r2, hl2, e2⟩ := I.lstM hB
 refine PySem.P.add_list e e2 ?_ (by rw [List.size_toArray, List.size_toArray]; omega)
 have ea : its.toArray ++ its2.toArray = (its ++ its2).toArray := by simp
 rw [ea]
 exact ⟨.ref _, _, I.lnew (t' := s.toks) (r.append r2) (by rw [List.length_append]; omega), rfl, q _ I.fresh⟩
end
section
variable {prog : Program} {w : World} {A : Around} {E : Value → Shared → Prop} {s : Shared}
end
section
variable {X : Cx}
end
end L2
namespace L2
open PySem PySem.Spec PyProof.Rows
section
variable {κ : Type} [DecidableEq κ]
def valV (kvs : List (κ × V)) (k : κ) : Option V := (kvs.find? fun kv => decide (kv.1 = k)).map (·.2)
def putK (kvs : List (κ × V)) (k : κ) (v : V) : List (κ × V) :=
 if (kvs.any fun kv => decide (kv.1 = k)) = true then kvs.map (fun kv => if kv.1 = k then (kv.1, v) else kv) else kvs ++ [(k, v)]
def dropK (kvs : List (κ × V)) (k : κ) : List (κ × V) := kvs.filter fun kv => decide (kv.1 ≠ k)
theorem valV_pos {p : κ × V} {r : List (κ × V)} {k : κ} (e : p.1 = k) : valV (p :: r) k = some p.2 := by simp [valV, List.find?_cons, e]
theorem valV_neg {p : κ × V} {r : List (κ × V)} {k : κ} (e : ¬ p.1 = k) : valV (p :: r) k = valV r k := by simp [valV, List.find?_cons, e]
theorem valV_any (k : κ) : ∀ kvs : List (κ × V), (kvs.any fun kv => decide (kv.1 = k)) = (valV kvs k).isSome
 | [] => rfl
 | p :: r => by
  rw [List.any_cons]
  by_cases e : p.1 = k
  ·simp only [valV_pos e, decide_eq_true e, Bool.true_or, Option.isSome_some]
  ·rw [valV_neg e, decide_eq_false e, Bool.false_or]; exact valV_any k r
theorem length_putK (kvs : List (κ × V)) (k : κ) (v : V) : (putK kvs k v).length ≤ kvs.length + 1 := by
 unfold putK
 split
 ·rw [List.length_map]; omega
 ·rw [List.length_append, List.length_cons, List.length_nil]; omega
theorem putK_new {kvs : List (κ × V)} {k : κ} (v : V) (h : valV kvs k = none) : putK kvs k v = kvs ++ [(k, v)] := by
 unfold putK
 rw [valV_any, h]
 exact if_neg (by decide)
theorem RelO.isSome_eq {o : Option V} {u : Option Value} (r : RelO o u) : o.isSome = u.isSome := by
 cases o with
 | none => cases u with
  | none => rfl
  | some _ => exact (show False from r).elim
 | some _ => cases u with
  | none => exact (show False from r).elim
  | some _ => rfl
theorem KV.val {kvs : List (κ × V)} {vs : List (κ × Value)} (r : KV kvs vs) (k : κ) : RelO (valV kvs k) (valueAt vs k) := by
 unfold KV at r
 induction r with
 | nil => exact True.intro
 | @cons p q ps qs h t ih =>
  obtain ⟨h1, h2⟩ := h
  by_cases e : p.1 = k
  ·have e' : q.1 = k := h1.symm.trans e
   have b : valueAt (q :: qs) k = some q.2 := by simp [valueAt, List.find?_cons, e']
   rw [valV_pos e, b]; exact h2
  ·have e' : ¬ q.1 = k := fun z => e (h1.trans z)
   have b : valueAt (q :: qs) k = valueAt qs k := by simp [valueAt, List.find?_cons, e']
   rw [valV_neg e, b]; exact ih
theorem KV.any {kvs : List (κ × V)} {vs : List (κ × Value)} (r : KV kvs vs) (k : κ) : (kvs.any fun kv => decide (kv.1 = k)) = vs.any fun kv => decide (kv.1 = k) := by
 unfold KV at r
 induction r with
 | nil => rfl
 | cons h t ih => rw [List.any_cons, List.any_cons, ih, h.1]
theorem KV.repl {kvs : List (κ × V)} {vs : List (κ × Value)} (r : KV kvs vs) (k : κ) {y : V} {u : Value} (ry : RelV y u) :
  KV (kvs.map fun kv => if kv.1 = k then (kv.1, y) else kv) (vs.map fun kv => if kv.1 = k then (kv.1, u) else kv) := by
 unfold KV at r ⊢
 induction r with
 | nil => exact .nil
 | @cons p q ps qs h t ih =>
  rw [List.map_cons, List.map_cons]
  refine .cons ?_ ih
  obtain ⟨h1, h2⟩ := h
  by_cases e : p.1 = k
  ·rw [if_pos e, if_pos (h1.symm.trans e)]; exact ⟨h1, ry⟩
  ·rw [if_neg e, if_neg (fun z => e (h1.trans z))]; exact ⟨h1, h2⟩
theorem KV.put {kvs : List (κ × V)} {vs : List (κ × Value)} (r : KV kvs vs) (k : κ) {y : V} {u : Value} (ry : RelV y u) : KV (putK kvs k y) (stored vs k u) := by
 unfold putK stored
 rw [r.any k]
 by_cases e : (vs.any fun kv => decide (kv.1 = k)) = true
 ·rw [if_pos e, if_pos e]; exact r.repl k ry
 ·rw [if_neg e, if_neg e]; exact Paired.snoc r ⟨rfl, ry⟩
theorem KV.drop {kvs : List (κ × V)} {vs : List (κ × Value)} (r : KV kvs vs) (k : κ) : KV (dropK kvs k) (without vs k) := by
 unfold KV at r ⊢
 unfold dropK without
 induction r with
 | nil => exact .nil
 | @cons p q ps qs h t ih =>
  obtain ⟨h1, h2⟩ := h
  rw [List.filter_cons, List.filter_cons]
  by_cases e : p.1 = k
  ·have a : ¬ decide (p.1 ≠ k) = true := by simp [e]
   have b : ¬ decide (q.1 ≠ k) = true := by simp [h1.symm.trans e]
   rw [if_neg a, if_neg b]; exact ih
  ·have e' : ¬ q.1 = k := fun z => e (h1.trans z)
   have a : decide (p.1 ≠ k) = true := by simp [e]
   have b : decide (q.1 ≠ k) = true := by simp [e']
   rw [if_pos a, if_pos b]; exact .cons ⟨h1, h2⟩ ih
theorem KV.length {kvs : List (κ × V)} {vs : List (κ × Value)} (r : KV kvs vs) : kvs.length = vs.length := Paired.length r
theorem dropK_le (kvs : List (κ × V)) (k : κ) : (dropK kvs k).length ≤ kvs.length := List.length_filter_le _ _
end
theorem kV_is {P : Program} {w : World} {k : Key} {u : Value} (r : RelV (kV k) u) : (mixKind P w).is k u = true := by
 cases k with
 | inl i => obtain ⟨t, e⟩ := (show ∃ t, u = Value.int i t from r); subst e; exact mixKind_int P w i t
 | inr x => obtain ⟨t, e⟩ := (show ∃ t, u = Value.str x t from r); subst e; exact mixKind_str P w x t
theorem items_are {P : Program} {w : World} : ∀ {ks : List Key} {us : List Value}, Vals (ks.map kV) us → ItemsAre (mixKind P w) ks us
 | [], _, r => by rw [List.map_nil] at r; cases r; exact .nil
 | k :: ks, _, r => by
  rw [List.map_cons] at r
  cases r with
  | cons h t => exact .cons (kV_is h) (items_are t)
abbrev KT (H : Hp) : List (List Key × V) → List (List Key × Addr × Value) → Prop := Paired fun p q => p.1 = q.1 ∧ H q.2.1 = some (.tup (p.1.map kV)) ∧ RelV p.2 q.2.2
theorem KT.val {H : Hp} {kvs : List (List Key × V)} {xs : List (List Key × Addr × Value)} (r : KT H kvs xs) (k : List Key) : RelO (valV kvs k) ((atKey xs k).map (·.2)) := by
 induction r with
 | nil => exact True.intro
 | @cons p q ps qs h t ih =>
  obtain ⟨h1, _, h2⟩ := h
  by_cases e : p.1 = k
  ·have e' : q.1 = k := h1.symm.trans e
   have b : atKey (q :: qs) k = some q.2 := by simp [atKey, List.find?_cons, e']
   rw [valV_pos e, b]; exact h2
  ·have e' : ¬ q.1 = k := fun z => e (h1.trans z)
   have b : atKey (q :: qs) k = atKey qs k := by simp [atKey, List.find?_cons, e']
   rw [valV_neg e, b]; exact ih
theorem KT.repl {H : Hp} {kvs : List (List Key × V)} {xs : List (List Key × Addr × Value)} (r : KT H kvs xs) (k : List Key) {y : V} {u : Value} (ry : RelV y u) :
  KT H (kvs.map fun kv => if kv.1 = k then (kv.1, y) else kv) (xs.map (putAt k u)) := by
 induction r with
 | nil => exact .nil
 | @cons p q ps qs h t ih =>
  rw [List.map_cons, List.map_cons]
  refine .cons ?_ ih
  obtain ⟨h1, h2, h3⟩ := h
  unfold putAt
  by_cases e : p.1 = k
  ·rw [if_pos e, if_pos (h1.symm.trans e)]; exact ⟨h1, h2, ry⟩
  ·rw [if_neg e, if_neg (fun z => e (h1.trans z))]; exact ⟨h1, h2, h3⟩
theorem KT.put {H : Hp} {kvs : List (List Key × V)} {xs : List (List Key × Addr × Value)} (r : KT H kvs xs) (k : List Key) {b : Addr} {y : V} {u : Value} (hb : H b = some (.tup (k.map kV))) (ry : RelV y u) :
  KT H (putK kvs k y) (storedH xs k b u) := by
 have e : (kvs.any fun kv => decide (kv.1 = k)) = (atKey xs k).isSome := by
  rw [valV_any, (r.val k).isSome_eq, Option.isSome_map]
 unfold putK storedH
 rw [e]
 by_cases q : (atKey xs k).isSome = true
 ·rw [if_pos q, if_pos q]; exact r.repl k ry
 ·rw [if_neg q, if_neg q]; exact Paired.snoc r ⟨rfl, hb, ry⟩
theorem KT.keeps {H H' : Hp} {kvs : List (List Key × V)} {xs : List (List Key × Addr × Value)} (r : KT H kvs xs) (ht : ∀ b ys, H b = some (.tup ys) → H' b = some (.tup ys)) : KT H' kvs xs :=
 Paired.mapP r fun _ _ z => ⟨z.1, ht _ _ z.2.1, z.2.2⟩
section
variable {P : Program} {w : World} {H : Hp} {h : Heap} {a : Addr}
theorem rd_of {u : HO} (ok : HOk P w H h) (e : Rd H a u) : ObjOk P w H h a u := e.ok ok
theorem dk_rd {kvs : List (Key × V)} (ok : HOk P w H h) (e : Rd H a (.dK kvs)) : kvs.length ≤ sizeLine ∧ (a == sysModules) = false ∧ ∃ vs, KV kvs vs ∧ h.DictOf (mixKind P w) a vs :=
 show ObjOk P w H h a (.dK kvs) from rd_of ok e
theorem dk_of {kvs : List (Key × V)} (ok : HOk P w H h) (e : H a = some (.dK kvs)) : kvs.length ≤ sizeLine ∧ (a == sysModules) = false ∧ ∃ vs, KV kvs vs ∧ h.DictOf (mixKind P w) a vs := dk_rd ok (.inl e)
theorem key_of {ks : List Key} (ok : HOk P w H h) (e : H a = some (.tup (ks.map kV))) : (tupleKind (mixKind P w)).is h ks a := by
 obtain ⟨_, its, r, o, h1, h2, n, h3⟩ := (show ObjOk P w H h a (.tup (ks.map kV)) from ok a _ e)
 exact ⟨o, its.toArray, n, h1, h2, h3, by simpa using items_are r⟩
theorem dt_rd {kvs : List (List Key × V)} (ok : HOk P w H h) (e : Rd H a (.dT kvs)) : kvs.length ≤ sizeLine ∧ (a == sysModules) = false ∧
  ∃ xs, KT H kvs xs ∧ h.DictOfH (tupleKind (mixKind P w)) a xs := by
 obtain ⟨z, y, xs, r, o, es, ep, h1, h2, h3, h4, h5⟩ := (show ObjOk P w H h a (.dT kvs) from rd_of ok e)
 refine ⟨z, y, xs, r, o, es, ep, h1, h2, h3, h4, fun x hx => ?_, h5⟩
 have all : ∀ {l : List (List Key × V)} {m : List (List Key × Addr × Value)}, KT H l m → ∀ x ∈ m, (tupleKind (mixKind P w)).is h x.1 x.2.1 := by
  intro l m q
  induction q with
  | nil => intro x hx; exact nomatch hx
  | @cons p q ps qs hq t ih =>
   intro x hx
   rcases List.mem_cons.mp hx with e | hx
   ·subst e
    exact key_of ok (by rw [← hq.1]; exact hq.2.1)
   ·exact ih x hx
 exact all r x hx
theorem dt_of {kvs : List (List Key × V)} (ok : HOk P w H h) (e : H a = some (.dT kvs)) : kvs.length ≤ sizeLine ∧ (a == sysModules) = false ∧
  ∃ xs, KT H kvs xs ∧ h.DictOfH (tupleKind (mixKind P w)) a xs := dt_rd ok (.inl e)
end
def DGet (H : Hp) (a : Addr) (y : V) (r : Option V) : Prop :=
 (∃ kvs k, Rd H a (.dK kvs) ∧ y = kV k ∧ r = valV kvs k) ∨ ∃ kvs k b, Rd H a (.dT kvs) ∧ y = .ref b ∧ H b = some (.tup (k.map kV)) ∧ r = valV kvs k
def DPut (H : Hp) (a : Addr) (y v : V) (H' : Hp) : Prop :=
 (∃ kvs k, H a = some (.dK kvs) ∧ y = kV k ∧ kvs.length < sizeLine ∧ H' = upd H a (.dK (putK kvs k v))) ∨
 ∃ kvs k b, H a = some (.dT kvs) ∧ y = .ref b ∧ H b = some (.tup (k.map kV)) ∧ kvs.length < sizeLine ∧ H' = upd H a (.dT (putK kvs k v))
theorem DGet.k {H : Hp} {a : Addr} {kvs : List (Key × V)} {k : Key} (e : H a = some (.dK kvs)) : DGet H a (kV k) (valV kvs k) := .inl ⟨kvs, k, .inl e, rfl, rfl⟩
theorem DPut.k {H : Hp} {a : Addr} {kvs : List (Key × V)} {k : Key} {v : V} (e : H a = some (.dK kvs)) (hl : kvs.length < sizeLine) : DPut H a (kV k) v (upd H a (.dK (putK kvs k v))) := .inl ⟨kvs, k, e, rfl, hl, rfl⟩
section
variable {X : Cx} {pins : List (Addr × Obj)} {σ : St} {H : Hp} {s : Shared} {a : Addr} {y v : V} {u r : Value} {o : Option V} {A : Around} {E : Value → Shared → Prop}
theorem Inv.big (I : Inv X pins σ H s) : sysModules < s.heap.objs.size := by
 have h : mainGlobals < s.heap.objs.size := (I.mod.glob.keeps I.bk).lt
 exact Nat.lt_trans (by decide) h
theorem d_getItem {Q : Value → Shared → Prop} (hu : A.units + 1 < cLine) (I : Inv X pins σ H s) (g : DGet H a y (some v)) (ry : RelV y u) (h : ∀ w' s', Inv X pins σ H s' → RelV v w' → Q w' s') :
  wpAny (model X.prog X.w) A (getItem (.ref a) u) Q E s := by
 rcases g with ⟨kvs, k, e, ey, l⟩ | ⟨kvs, k, b, e, ey, eb, l⟩
 ·subst ey
  obtain ⟨z, hd, vs, rel, dd⟩ := dk_rd I.hok e
  obtain ⟨w', hw, rw'⟩ := RelO.some_of (v := v) (o := valueAt vs k) (by rw [l]; exact rel.val k)
  exact wpAny_getItem_of (kV_is ry) dd.mapOf hw (h w' _ (I.tok _) rw')
 ·subst ey
  cases (show u = Value.ref b from ry)
  obtain ⟨z, hd, xs, rel, dd⟩ := dt_rd I.hok e
  obtain ⟨w', hw, rw'⟩ := RelO.some_of (v := v) (o := (atKey xs k).map (·.2)) (by rw [l]; exact rel.val k)
  obtain ⟨p, hp, hp2⟩ := Option.map_eq_some_iff.mp hw
  refine wpAny_getItem_heap (tupleKind_room_in1 hu) (key_of I.hok eb) dd hp ?_
  rw [hp2]
  exact h w' _ (I.tok _) rw'
theorem d_notIn {Q : Value → Shared → Prop} (hu : A.units + 1 < cLine) (I : Inv X pins σ H s) (g : DGet H a y o) (ry : RelV y u) (h : ∀ s', Inv X pins σ H s' → Q (.bool (!o.isSome)) s') :
  wpAny (model X.prog X.w) A (compareOp .NotIn u (.ref a)) Q E s := by
 rcases g with ⟨kvs, k, e, ey, l⟩ | ⟨kvs, k, b, e, ey, eb, l⟩
 ·subst ey
  obtain ⟨z, hd, vs, rel, dd⟩ := dk_rd I.hok e
  refine wpAny_notIn_of (kV_is ry) hd dd.mapOf ?_
  rw [← (rel.val k).isSome_eq, ← l]
  exact h _ (I.tok _)
 ·subst ey
  cases (show u = Value.ref b from ry)
  obtain ⟨z, hd, xs, rel, dd⟩ := dt_rd I.hok e
  refine wpAny_notIn_heap (tupleKind_room_in1 hu) (key_of I.hok eb) hd dd ?_
  have q := (rel.val k).isSome_eq
  rw [Option.isSome_map] at q
  rw [← q, ← l]
  exact h _ (I.tok _)
theorem d_write {h' : Heap} {t' : Nat} {ob : HO} (I : Inv X pins σ H s) (mu : Mut (H a)) (hs : Heap.SameBut a s.heap h') (he : ∃ q, h'.get? a = some q) (new : ObjOk X.prog X.w (upd H a ob) h' a ob) :
  Inv X pins σ (upd H a ob) { s with heap := h', toks := t' } :=
 I.write (x := a) (e := a) mu (.inl rfl) (fun b q hb z => (hs.2 b hb).trans z) he new
theorem dk_new {P : Program} {w : World} {H' : Hp} {h' : Heap} {kvs : List (Key × V)} {vs : List (Key × Value)} (z : kvs.length ≤ sizeLine) (hd : (a == sysModules) = false) (rel : KV kvs vs) (dd : h'.DictOf (mixKind P w) a vs) :
  ObjOk P w H' h' a (.dK kvs) := ⟨z, hd, vs, rel, dd⟩
theorem d_setItem {H' : Hp} {Q : Unit → Shared → Prop} (hu : A.units + 1 < cLine) (I : Inv X pins σ H s) (g : DPut H a y v H') (ry : RelV y u) (rv : RelV v r) (h : ∀ s', Inv X pins σ H' s' → Q () s') :
  wpAny (model X.prog X.w) A (setItem (.ref a) u r) Q E s := by
 rcases g with ⟨kvs, k, e, ey, l, eH⟩ | ⟨kvs, k, b, e, ey, eb, l, eH⟩
 ·subst ey eH
  obtain ⟨z, hd, vs, rel, dd⟩ := dk_of I.hok e
  have hz : vs.length ≤ sizeLine := by rw [← rel.length]; exact z
  have hl : (putK kvs k v).length ≤ sizeLine := by have := length_putK kvs k v; omega
  refine wpAny_setItem_pairs (hsz := hz) (kV_is ry) dd fun h' dd' hs => h _ ?_
  have he : ∃ q, h'.get? a = some q := let ⟨q, _, _, hq, _⟩ := dd'; ⟨q, hq⟩
  exact d_write I (by rw [e]; exact True.intro) hs he (dk_new hl hd (rel.put k rv) dd')
 ·subst ey eH
  cases (show u = Value.ref b from ry)
  obtain ⟨z, hd, xs, rel, dd⟩ := dt_of I.hok e
  have hz : xs.length ≤ sizeLine := by rw [← Paired.length rel]; exact z
  have hl : (putK kvs k v).length ≤ sizeLine := by have := length_putK kvs k v; omega
  refine wpAny_setItem_heap (hsz := hz) (tupleKind_room_in1 hu) (key_of I.hok eb) dd fun h' dd' hs => h _ ?_
  obtain ⟨q, es, ep, hq, h2, h3, h4, _, h5⟩ := dd'
  refine d_write I (by rw [e]; exact True.intro) hs ⟨q, hq⟩ ⟨hl, hd, _, (rel.put k eb rv).keeps fun c ys ec => ?_, q, es, ep, hq, h2, h3, h4, h5⟩
  rw [upd_ne (ne_of ec e (fun z => nomatch z))]
  exact ec
end
section
variable {X : Cx} {pins : List (Addr × Obj)} {σ : St} {H : Hp} {s : Shared} {a : Addr} {kvs : List (Key × V)} {k : Key} {u : Value} {A : Around} {E : Value → Shared → Prop}
theorem d_pop {v : V} {more : List Value} {Q : Value → Shared → Prop} (I : Inv X pins σ H s) (e : H a = some (.dK kvs)) (ry : RelV (kV k) u) (l : valV kvs k = some v) (hm : more = [] ∨ ∃ x, more = [x])
  (h : ∀ w' s', Inv X pins σ (upd H a (.dK (dropK kvs k))) s' → RelV v w' → Q w' s') : wpAny (model X.prog X.w) A (call (.builtin "dict.pop") (.ref a :: u :: more)) Q E s := by
 obtain ⟨z, hd, vs, rel, dd⟩ := dk_of I.hok e
 obtain ⟨w', hw, rw'⟩ := RelO.some_of (v := v) (o := valueAt vs k) (by rw [← l]; exact rel.val k)
 have hp : (keyPart u).isSome = true := by
  cases k with
  | inl i => obtain ⟨t, q⟩ := (show ∃ t, u = Value.int i t from ry); subst q; rfl
  | inr x => obtain ⟨t, q⟩ := (show ∃ t, u = Value.str x t from ry); subst q; rfl
 have ha : argsOk "dict.pop" ⟨.ref a :: u :: more, []⟩ := by
  rcases hm with q | ⟨x, q⟩
  ·subst q; exact PySem.F.args_dict_pop_2 _ _
  ·subst q; exact PySem.F.args_dict_pop_3 _ _ _
 refine call_meetsIn PySem.F.slot_dict_pop dd.typeIs PySem.F.entry_dict_pop ha (meets_dict_pop_there (mixKind X.prog X.w) a (kV_is ry) more hm hp)
  ⟨vs, w', dd, by rw [← rel.length]; exact z, hw, fun h' dd' hs => h w' _ ?_ rw'⟩
 have he : ∃ q, h'.get? a = some q := let ⟨q, _, _, hq, _⟩ := dd'; ⟨q, hq⟩
 exact d_write I (by rw [e]; exact True.intro) hs he (dk_new (Nat.le_trans (dropK_le kvs k) z) hd (rel.drop k) dd')
theorem d_len {Q : Value → Shared → Prop} (I : Inv X pins σ H s) (e : Rd H a (.dK kvs)) (h : ∀ t s', Inv X pins σ H s' → Q (.int kvs.length t) s') : wpAny (model X.prog X.w) A (call (.builtin "len") [.ref a]) Q E s := by
 obtain ⟨z, hd, vs, rel, dd⟩ := dk_rd I.hok e
 refine call_len_dict hd dd (by rw [← rel.length]; rw [sizeLine_eq] at z; omega) ?_
 rw [← rel.length]
 exact h _ _ (I.tok _)
end
def NoSl (i : Expr) : Prop := ∀ ov iv, subscripted i false ov iv = operate [ov, iv] (getItem ov iv)
theorem subD_of {prog : Program} {w : World} {A : Around} {E : Value → Shared → Prop} {s : Shared} {env : Env} {value slice : Expr} {pos : Pos} {T id : String} {Q : Value → Shared → Prop}
  (hl : typeLookup (.type T) "__getitem__" = pure (some (.builtin id))) (hs : NoSl slice)
  (h : wpAny (model prog w) A (eval value env) (fun o s₁ => wpAny (model prog w) A (eval slice env) (fun i s₂ => s₂.TypeIs o T ∧ wpAny (model prog w) A (getItem o i) Q E s₂) E s₁) E s) :
  wpAny (model prog w) A (eval (.Subscript value slice pos) env) Q E s := by
 refine Subscript_ (wpAny_mono h (fun o s₁ h₁ => wpAny_mono h₁ (fun i s₂ h₂ => ?_) fun _ _ x => x) fun _ _ x => x)
 obtain ⟨hT, h₂⟩ := h₂
 unfold subscriptTail
 refine wpAny_bind ?_
 rw [getitemInPython_of_ne hT.not_modules]
 refine wpAny_bind (wpAny_specialOf hT hl ?_)
 have fin : wpAny (model prog w) A (subscripted slice false o i) (fun r s₃ => wpAny (model prog w) A (letTemporaryGo value o r >>= fun _ => pure r) Q E s₃) E s₂ := by
  rw [hs o i]
  exact wpAny_operating (wpAny_mono h₂ (fun r s₃ h₃ => wpAny_bind (wpAny_letTemporaryGo (wpAny_pure h₃))) fun _ _ x => x)
 first
  | exact wpAny_pure (wpAny_bind fin)
  | exact wpAny_bind (wpAny_pure (wpAny_bind fin))
  | exact wpAny_bind fin
theorem dict_typeIs {X : Cx} {pins : List (Addr × Obj)} {σ : St} {H : Hp} {s : Shared} {a : Addr} {y : V} {o : Option V} (I : Inv X pins σ H s) (g : DGet H a y o) : s.TypeIs (.ref a) "dict" := by
 rcases g with ⟨kvs, k, e, _, _⟩ | ⟨kvs, k, b, e, _, _, _⟩
 ·obtain ⟨_, _, vs, _, dd⟩ := dk_rd I.hok e
  exact dd.typeIs
 ·obtain ⟨_, _, xs, _, dd⟩ := dt_rd I.hok e
  exact dd.typeIs
def tDGet (td ty : TE) : TE := fun σ H Q => td σ H fun x H1 => ty σ H1 fun y H2 => ∃ a v, x = .ref a ∧ DGet H2 a y (some v) ∧ Q v H2
def tDNotIn (ty td : TE) : TE := fun σ H Q => ty σ H fun y H1 => td σ H1 fun x H2 => ∃ a o, x = .ref a ∧ DGet H2 a y o ∧ Q (.bl (!o.isSome)) H2
def sDPut (td ty tv : TE) : TS := fun D σ H => tv σ H fun v H1 => td σ H1 fun x H2 => ty σ H2 fun y H3 => ∃ a H4, x = .ref a ∧ DPut H3 a y v H4 ∧ D.nx σ H4
section
variable {X : Cx} {o i e value : Expr} {pos pos' tpos : Pos} {td ty tv : TE}
theorem pe_dget (hu : X.A.units + 1 < cLine) (ho : PE X o td) (hi : PE X i ty) (hs : NoSl i) : PE X (.Subscript o i pos) (tDGet td ty) := by
 intro pins s σ H Q I h
 refine subD_of PySem.F.slot_dict_getitem.lookup hs (thn (ho pins s σ H _ I h) fun u s1 ⟨x, H1, I1, rx, q1⟩ => thn (hi pins s1 σ H1 _ I1 q1) fun iv s2 ⟨y, H2, I2, ry, a, v, ex, g, q2⟩ => ?_)
 subst ex
 obtain rfl : u = Value.ref a := rx
 exact ⟨dict_typeIs I2 g, d_getItem hu I2 g ry fun w' s3 I3 rw' => ⟨v, H2, I3, rw', q2⟩⟩
theorem pc_dnotin (hu : X.A.units + 1 < cLine) (hi : PE X i ty) (ho : PE X o td) : PC X .NotIn i o (tDNotIn ty td) := by
 intro pins s σ H Q I h
 refine thn (hi pins s σ H _ I h) fun iv s1 ⟨y, H1, I1, ry, q1⟩ => thn (ho pins s1 σ H1 _ I1 q1) fun u s2 ⟨x, H2, I2, rx, a, ov, ex, g, q2⟩ => ?_
 subst ex
 obtain rfl : u = Value.ref a := rx
 exact d_notIn hu I2 g ry fun s3 I3 => ⟨.bl (!ov.isSome), H2, I3, rfl, q2⟩
theorem ps_dput (hu : X.A.units + 1 < cLine) (ho : PE X o td) (hi : PE X i ty) (hv : PE X value tv) (hs : swapsWith value (some (.Subscript o i pos')) pos.line X.env = pure false) :
  PS X (.Assign [.Subscript o i pos'] value pos) (sDPut td ty tv) := by
 intro pins s σ H D I h
 refine wpAny_Assign_Subscript (thn (hv pins s σ H _ I h) fun r s1 ⟨v, H1, I1, rv, q1⟩ => thn (ho pins s1 σ H1 _ I1 q1) fun u s2 ⟨x, H2, I2, rx, q2⟩ => thn (hi pins s2 σ H2 _ I2 q2) fun iv s3 ⟨y, H3, I3, ry, a, H4, ex, g, q3⟩ => ?_) hs
 subst ex
 obtain rfl : u = Value.ref a := rx
 exact d_setItem hu I3 g ry rv fun s4 I4 => ⟨σ, H4, I4, q3⟩
end
theorem dk_empty {P : Program} {w : World} {H : Hp} (h : Heap) (hb : sysModules < h.objs.size) : ObjOk P w H (h.push { cls := .type "dict", data := .dict #[] }) h.objs.size (.dK []) :=
 ⟨Nat.zero_le _, beq_eq_false_iff_ne.mpr (Ne.symm (Nat.ne_of_lt hb)), [], .nil, Heap.DictOf.new h⟩
def tDNewK : TE := fun _ H Q => ∀ p, H p = none → Q (.ref p) (upd H p (.dK []))
section
variable {X : Cx} {pos : Pos}
theorem pe_dnewK : PE X (.Dict [] [] pos) tDNewK := fun pins s σ H Q I h =>
 wpAny_Dict_empty ⟨.ref s.heap.objs.size, _, I.laid (a := s.heap.objs.size) (o := .dK []) (t' := s.toks) (fun _ _ q => Heap.get?_push_of_some _ q) (Nat.le_refl _) (dk_empty s.heap I.big), rfl, h _ (I.hok.fresh (Nat.le_refl _))⟩
end
structure M1 (X : Cx) (o : Expr) (m : Str) (apos : Pos) (e : Expr) (cpos : Pos) : Prop where
 base : attributeBase o m X.env (eval o X.env) = eval o X.env
 few : ((backTo cpos (starEach [e] X.env)).all (fun x => !x.1) && (backToKw cpos (keywordEach [] X.env)).all (fun x => x.1.isSome)
  && decide (([e] : List Expr).length + ([] : List Keyword).length + (if ([] : List Keyword).isEmpty then 0 else 1) < 30)) = true
 line : (apos.endLine == cpos.line) = true
 trees : backTo cpos (starEach [e] X.env) = [(false, eval e X.env)]
def IsD (H : Hp) (a : Addr) : Prop := (∃ kvs, Rd H a (.dK kvs)) ∨ ∃ kvs, Rd H a (.dT kvs)
theorem isD_at {X : Cx} {pins : List (Addr × Obj)} {σ : St} {H : Hp} {s : Shared} {a : Addr} (I : Inv X pins σ H s) (d : IsD H a) :
  s.TypeIs (.ref a) "dict" ∧ (∀ b, Value.ref a = .ref b → ∃ ob, s.heap.get? b = some ob ∧ ob.dict = none) ∧ (a == sysModules) = false := by
 rcases d with ⟨kvs, e⟩ | ⟨kvs, e⟩
 ·obtain ⟨_, hd, vs, _, dd⟩ := dk_rd I.hok e
  refine ⟨dd.typeIs, fun b q => ?_, hd⟩
  cases q
  obtain ⟨ob, _, _, h1, h2, _⟩ := dd
  exact ⟨ob, h1, h2.2.1⟩
 ·obtain ⟨_, hd, xs, _, dd⟩ := dt_rd I.hok e
  refine ⟨dd.typeIs, fun b q => ?_, hd⟩
  cases q
  obtain ⟨ob, _, _, h1, h2, _⟩ := dd
  exact ⟨ob, h1, h2.2.1⟩
section
variable {X : Cx} {pins : List (Addr × Obj)} {σ : St} {H : Hp} {s : Shared} {a : Addr} {y d : V} {u r : Value} {o : Option V} {A : Around} {E : Value → Shared → Prop}
end
def tDPop1 (td ty : TE) : TE := fun σ H Q => td σ H fun x H1 => ∃ a, x = .ref a ∧ IsD H1 a ∧ ty σ H1 fun y H2 => ∃ kvs k v, H2 a = some (.dK kvs) ∧ y = kV k ∧ valV kvs k = some v ∧ Q v (upd H2 a (.dK (dropK kvs k)))
section
variable {X : Cx} {o e f : Expr} {apos cpos : Pos} {td ty tx : TE}
theorem pe_dpop1 (ho : PE X o td) (he : PE X e ty) (m : M1 X o "pop" apos e cpos) : PE X (.Call (.Attribute o "pop" apos) [e] [] cpos) (tDPop1 td ty) := by
 intro pins s σ H Q I h
 refine wpAny_Call_method m.base m.few m.line PySem.F.plainAttrs_dict PySem.F.slot_dict_pop PySem.F.type_dict_pop (thn (ho pins s σ H _ I h) fun u s1 ⟨x, H1, I1, rx, a, ex, d, q1⟩ => ?_)
 subst ex
 obtain rfl : u = Value.ref a := rx
 obtain ⟨t1, t2, _⟩ := isD_at I1 d
 refine ⟨t1, t2, ?_⟩
 rw [m.trees]
 refine Calls.callWith_builtin rfl (Calls.evalArgs_plain (Calls.spliced_cons (thn (he pins s1 σ H1 _ I1 q1) fun iv s2 ⟨y, H2, I2, ry, kvs, k, v, ea, ey, l, q2⟩ => Calls.spliced_nil ?_)))
 subst ey
 exact d_pop I2 ea ry l (.inl rfl) fun w' s3 I3 rw' => ⟨v, _, I3, rw', q2⟩
end
section
variable {X : Cx} {pins : List (Addr × Obj)} {σ : St} {H : Hp} {s : Shared} {a : Addr} {kvs : List (Key × V)} {A : Around} {E : Value → Shared → Prop}
theorem d_copyOf {Q : Value → Shared → Prop} (I : Inv X pins σ H s) (e : Rd H a (.dK kvs)) (h : ∀ p s', H p = none → Inv X pins σ (upd H p (.dK kvs)) s' → Q (.ref p) s') : wpAny (model X.prog X.w) A (call (.type "dict") [.ref a]) Q E s := by
 obtain ⟨z, hd, vs, rel, dd⟩ := dk_rd I.hok e
 refine kt_call_dict hd dd (by rw [← rel.length]; exact z) fun h' dd' hs => ?_
 refine h _ _ (I.hok.fresh (Nat.le_refl _)) (I.laid (a := s.heap.objs.size) (o := .dK kvs) (t' := s.toks) (fun b q hq => ?_) (Nat.le_refl _) (dk_new z (beq_eq_false_iff_ne.mpr (Ne.symm (Nat.ne_of_lt I.big))) rel dd'))
 exact (hs.2 b (Nat.ne_of_lt (Heap.lt_size hq))).trans (Heap.get?_push_of_some _ hq)
end
section
variable {X : Cx} {pins : List (Addr × Obj)} {σ : St} {H : Hp} {s : Shared} {a : Addr} {y : V} {u : Value} {A : Around} {E : Value → Shared → Prop}
end
end L2
namespace Att
open PySem PySem.W PySem.Calls PyProof.Rows
theorem ints_of_wellAll {P : Params} {h : Heap} : ∀ (ns : List Int) (vs : List Value), WellAll P h vs (ns.map WData.int) → IntsAre vs ns := by
 intro ns
 induction ns with
 | nil =>
  intro vs w
  rw [List.map_nil] at w
  cases w
  exact .nil
 | cons n ns ih =>
  intro vs w
  rw [List.map_cons] at w
  cases w with
  | cons a b =>
   cases a
   exact .cons _ _ (ih _ b)
theorem script_of {l : OpenLaw} {n : Nat} (hn : l.most = some n) {P : Params} {h : Heap} {args : List WData} {vals : List Value}
  (hpre : l.row.toRowW.claim.pre args = true) (hwl : WellAll P h vals args) :
  ∃ a vs ns, vals = [Value.ref a] ∧ args = [WData.list (ns.map WData.int)] ∧ h.get? a = some { cls := .type "list", data := .seq vs.toArray } ∧ IntsAre vs ns ∧ ns.length ≤ n := by
 have hsh : WShape.hasAll [] args [.list .int] = true := (pre_splitW hpre).1
 have hc : l.pre.holds [] { args := args } = true := (pre_splitW hpre).2
 obtain ⟨d, r, rfl, h1, h2⟩ := hasAllW_cons hsh
 obtain rfl := hasAllW_nil h2
 obtain ⟨xs, rfl, h3⟩ := hasW_list h1
 obtain ⟨ns, rfl⟩ := items_int h3
 have hlen : ns.length ≤ n := by
  unfold OpenLaw.pre at hc
  have h4 : (WTm.not (.lt (.lit (.int (n : Int))) (.len (.arg 0)))).holds [] { args := [.list (ns.map .int)] } = true := by
   have h4 := (holds_andW hc).1
   rw [hn] at h4
   exact h4
  have h5 := condW_of h4 (w_not (w_lt w_lit (w_len_list (w_arg rfl))))
  rw [List.length_map] at h5
  refine Nat.le_of_not_lt fun q => ?_
  have q' : (n : Int) < ((ns.length : Nat) : Int) := by omega
  first
   | (rw [decide_eq_true q'] at h5; exact absurd h5 (by decide))
   | (simp at h5; omega)
 cases hwl with
 | cons w1 w2 =>
  cases w2
  cases w1 with
  | list ho hall => exact ⟨_, _, ns, rfl, rfl, ho, ints_of_wellAll ns _ hall, hlen⟩
theorem post_true (l : OpenLaw) (args : List WData) : l.row.toRowW.claim.post args (.bool true) args = true :=
 postW_of (r := l.row.toRowW) (X := (true == true))
  (show WShape.has [] (.bool true) .bool = true by first | rfl | decide | simp [WShape.has, WShape.arms, WShape.armsAll])
  (show (WTm.eq .res (.lit (.bool true))).value [] { args := args, res := some (.bool true), after := args } = some (.bool (true == true)) from w_eq_bool (w_res rfl) w_lit) rfl
theorem attach_call {l : OpenLaw} {n : Nat} {q : Program} {loose : List Str} {XP : (Str → Option Value) → Heap → Prop} {YP : World → Heap → Prop} {d : DefRec}
  (hn : l.most = some n) (hdf : d.params.defaults = [])
  (call : ∀ (w : World) (s₀ s₁ : Shared) (mg mb : Str → Option Value) (fa : Addr) (o : Obj) (pm cd doc : Value) (a : Addr) (vs : List Value) (ns : List Int),
   Ground q loose [] XP w s₀ mg mb s₁.heap → YP w s₁.heap →
   s₁.heap.get? fa = some o → o.data = .func (docDef d.name d.params d.body d.scope pm cd doc) → s₁.heap.CodeRec cd d.name → mg d.name = some (.ref fa) →
   s₁.heap.get? a = some { cls := .type "list", data := .seq vs.toArray } → IntsAre vs ns → ns.length ≤ n → s₁.gens = #[] →
   codeAny (model l.prog w) callerA (.call (.ref fa) ⟨[.ref a], []⟩) (fun r s' => r = .ok (.ret (.bool true)) ∧ OldK s₁.heap s'.heap ∧ s'.os = s₁.os ∧ AllBare s'.gens) s₁) :
  WalkO q loose XP YP l.row.toRowW d [] (fun f vs => PySem.call f vs) := by
 intro w s₀ s₁ mg mb G Y fa o pm cd doc dV kV ho hd hcd hD hmg hg args vals as hpre hlay hrd hwl hlo
 obtain rfl : dV = .none := Dflts.none hD hdf
 obtain rfl : kV = .none := Dflts.noKw hD
 obtain ⟨a, vs, ns, rfl, rfl, hobj, hints, hlen⟩ := script_of hn hpre hwl
 refine enter_call (codeAny_mono (call w s₀ s₁ mg mb fa o pm cd doc a vs ns G Y ho (fd_plain hd) hcd hmg hobj hints hlen hg) fun r s' hq => ?_)
 obtain ⟨rfl, h2, h3, h4⟩ := hq
 exact ⟨.inl ⟨.bool true, .bool true, [], rfl, fun _ => rfl, .bool true, post_true l _, fun _ => ⟨List.Pairwise.nil, fun _ hm => (nomatch hm)⟩⟩, h2, h3, h4⟩
section
variable {prog : Program} {w : World} {A : Around} {E : Value → Shared → Prop} {s : Shared} {K : Frag}
end
end Att
namespace L2
open PySem PySem.Spec PyProof.Rows
theorem vals_ints : ∀ {vs : List Value} {ns : List Int}, IntsAre vs ns → Vals (ns.map V.int) vs
 | _, _, .nil => .nil
 | _, _, .cons n t h => .cons ⟨t, rfl⟩ (vals_ints h)
def Only (H : Hp) : Prop := ∀ b, H b = none ∨ ∃ o xs, H b = some (.frz o (.lst xs))
theorem law_call {P : Program} {w : World} {K : PySem.W.Frag} {mg mb : Str → Option Value} {CX : CXT} {k : Nat} {fa a : Addr} {fd : FuncData} {x : Str} {sp : Sp} {s₁ : Shared} {vs : List Value} {ns : List Int}
  (KX : K.In s₁.heap) (hns : s₁.heap.Ns mainGlobals mg) (hb : s₁.heap.Ns builtinsNs mb) (hbb : ∀ x : Str, x ≠ "__name__" → mb x = bootBuiltins x) (hlim : s₁.heap.NoLimit) (hg : s₁.gens = #[])
  (ha : s₁.heap.get? a = some { cls := .type "list", data := .seq vs.toArray }) (hi : IntsAre vs ns) (hl : ns.length ≤ sizeLine) (hr : Room k callerA)
  (F : ∀ base : Heap, K.In base → base.Ns mainGlobals mg → FnOk P w K mg base CX k fa fd [x] sp) (hbind : ∀ (s : Shared) (u : Value), BindsTo s fd ⟨[u], []⟩ [(x, u)])
  (hsp : ∀ H : Hp, Only H → SqL K H a (ns.map V.int) → sp [.ref a] H (fun v _ => v = .bl true) fun _ _ _ => False)
  (hCX : ∀ H e s', CX [] H s₁ (fun _ _ _ => False) e s' → False) :
  codeAny (model P w) callerA (.call (.ref fa) ⟨[.ref a], []⟩) (fun r s' => r = .ok (.ret (.bool true)) ∧ OldK s₁.heap s'.heap ∧ s'.os = s₁.os ∧ AllBare s'.gens) s₁ := by
 have rv := vals_ints hi
 have lenV := hi.length
 have core : ∀ H : Hp, Only H → SqL K H a (ns.map V.int) → HOk P w H s₁.heap → (∀ b, H b ≠ none → b = a) → (H a ≠ none → K.lookup a = none) →
   codeAny (model P w) callerA (.call (.ref fa) ⟨[.ref a], []⟩) (fun r s' => r = .ok (.ret (.bool true)) ∧ OldK s₁.heap s'.heap ∧ s'.os = s₁.os ∧ AllBare s'.gens) s₁ := by
  intro H hO hS hok hA hK
  have base_of : ∀ {b : Addr} {o : Obj}, s₁.heap.get? b = some o → H b = none → (hidT s₁.heap H).get? b = some o := fun e n => hidT_get e n
  have noA : ∀ {b : Addr} {o : Obj} {es : Array DictEntry} {ep : Nat}, s₁.heap.get? b = some o → o.data = .dict es ep → H b = none := fun {b o es ep} e d => by
   cases q : H b with
   | none => rfl
   | some u =>
    have e' : b = a := hA b (by rw [q]; simp)
    subst e'
    rw [ha] at e; cases e
    have d' : Data.seq vs.toArray _ = Data.dict es ep := d
    cases d'
  have nsK : ∀ {b : Addr} {m : Str → Option Value}, s₁.heap.Ns b m → (hidT s₁.heap H).Ns b m := fun {b m} ⟨o, es, ep, e, d, r⟩ => ⟨o, es, ep, base_of e (noA e d), d, r⟩
  have hKb : K.In (hidT s₁.heap H) := fun b o e => base_of (KX b o e) (by
   cases q : H b with
   | none => rfl
   | some u =>
    have e' : b = a := hA b (by rw [q]; simp)
    subst e'
    rw [hK (by rw [q]; simp)] at e; cases e)
  have hM : Mod K mg (hidT s₁.heap H) := ⟨hKb, nsK hns, ⟨mb, nsK hb, hbb⟩, let ⟨mc, h1, h2⟩ := hlim; ⟨mc, nsK h1, h2⟩⟩
  have e0 : Env0 P w K mg (hidT s₁.heap H) callerA [] s₁ H := ⟨rfl, hM, fun b o e => of_hidT e, Nat.le_of_eq (hidT_size _ _), trivial, fun b hb => absurd (show b ∈ ([] : List Addr) from hb) (by simp), hok, .of_eq hg⟩
  refine codeAny_mono ((F _ hKb (nsK hns)).run callerA [] s₁ H ⟨[.ref a], []⟩ [.ref a] [.ref a] _ _ hr e0 (hbind s₁ (.ref a)) (.cons rfl .nil) (hsp H hO hS)) fun r s' h => ?_
  cases r with
  | error e => exact (hCX H e s' h).elim
  | ok fl =>
   cases fl with
   | next => exact False.elim h
   | brk => exact False.elim h
   | cont => exact False.elim h
   | ret u =>
    obtain ⟨v, H', os, bare, un, hok', r', q⟩ := h
    have q' : v = .bl true := q
    subst q'
    obtain rfl : u = Value.bool true := r'
    refine ⟨rfl, OldK.of_keep fun b o e => ?_, os, bare⟩
    cases q : H b with
    | none => exact un.keep b o e q (by intro z; exact absurd (show b ∈ ([] : List Addr) from z) (by simp)) (by simp)
    | some u =>
     rcases hO b with z | ⟨ob, xs, z⟩
     ·rw [q] at z; cases z
     ·have z2 := un.frzs b ob _ z
      obtain ⟨e1, _⟩ := hok b _ z
      obtain ⟨e2, _⟩ := hok' b _ z2
      rw [e] at e1; cases e1
      exact e2
 cases hk : K.lookup a with
 | some o =>
  have e := KX a o hk
  rw [ha] at e
  cases e
  refine core (fun _ => none) (fun _ => .inl rfl) (.inr ⟨_, vs.toArray, _, hk, rfl, rfl, rfl, by rw [List.size_toArray, lenV]; exact hl, by simpa using rv⟩) (fun b u z => by have z' : (none : Option HO) = some u := z; cases z') (fun b z => absurd rfl z) fun z => absurd rfl z
 | none =>
  refine core (fun b => if b = a then some (.frz { cls := .type "list", data := .seq vs.toArray } (.lst (ns.map V.int))) else none) (fun b => ?_) (.inl (.inr ⟨{ cls := .type "list", data := .seq vs.toArray }, if_pos rfl⟩)) (fun b u z => ?_) (fun b z => ?_) fun _ => hk
  ·by_cases hb : b = a
   ·exact .inr ⟨_, _, if_pos hb⟩
   ·exact .inl (if_neg hb)
  ·by_cases hb : b = a
   ·have z' := (if_pos hb).symm.trans z
    cases z'
    subst hb
    exact ⟨ha, by rw [List.length_map]; exact hl, vs, _, rv, ha⟩
   ·have z' := (if_neg hb).symm.trans z
    cases z'
  ·by_cases hb : b = a
   ·exact hb
   ·exact absurd (if_neg hb) z
end L2
namespace L2
open PySem PySem.Spec PyProof.Rows
theorem walk_of {l : PySem.W.OpenLaw} {n k : Nat} {q : Program} {loose : List Str} {XP : (Str → Option Value) → Heap → Prop} {YP : World → Heap → Prop} {d : DefRec} {K : Params → PySem.W.Frag} {CX : World → CXT} {sp : World → Sp} {x : Str}
  (hn : l.most = some n) (hn2 : n ≤ sizeLine) (hdf : d.params.defaults = []) (hr : Room k callerA)
  (hY : ∀ (w : World) (h : Heap), YP w h → (K w.params).In h)
  (F : ∀ (w : World) (mg : Str → Option Value) (fa : Addr) (h : Heap), (K w.params).In h → h.Ns mainGlobals mg → mg d.name = some (.ref fa) →
   ∃ fd : FuncData, (∀ (s : Shared) (u : Value), BindsTo s fd ⟨[u], []⟩ [(x, u)]) ∧
    ∀ base : Heap, (K w.params).In base → base.Ns mainGlobals mg → FnOk l.prog w (K w.params) mg base (CX w) k fa fd [x] (sp w))
  (hsp : ∀ (w : World) (H : Hp) (a : Addr) (ns : List Int), ns.length ≤ n → Only H → SqL (K w.params) H a (ns.map V.int) → sp w [.ref a] H (fun v _ => v = .bl true) fun _ _ _ => False)
  (hCX : ∀ (w : World) (H : Hp) (s : Shared) (e : Value) (s' : Shared), CX w [] H s (fun _ _ _ => False) e s' → False) :
  PySem.W.WalkO q loose XP YP l.row.toRowW d [] (fun f vs => PySem.call f vs) := by
 refine Att.attach_call hn hdf fun w s₀ s₁ mg mb fa o pm cd doc a vs ns G Y ho hd hcd hmg hobj hints hlen hg => ?_
 have KX := hY w _ Y
 obtain ⟨fd, hb, hF⟩ := F w mg fa _ KX G.T.g hmg
 exact law_call KX G.T.g G.T.b G.T.builtins G.T.nolimit hg hobj hints (Nat.le_trans hlen hn2) hr hF hb (fun H hO hS => hsp w H a ns hlen hO hS) fun H e s' => hCX w H s₁ e s'
end L2
namespace L2
open PySem PySem.Spec PyProof.Rows
def inClass (s : Stmt) (j : Nat) : Stmt := match s with
 | .ClassDef _ _ _ body _ _ _ _ _ _ _ => body.getD j (.Pass ⟨0, 0, 0, 0⟩)
 | _ => .Pass ⟨0, 0, 0, 0⟩
def defArgs (s : Stmt) : Arguments := match s with
 | .FunctionDef _ a _ _ _ _ _ _ _ _ => a
 | _ => { posonlyargs := [], args := [], vararg := none, kwonlyargs := [], kw_defaults := [], kwarg := none, defaults := [] }
def defBody (s : Stmt) : List Stmt := match s with
 | .FunctionDef _ _ b _ _ _ _ _ _ _ => b
 | _ => []
def defScope (s : Stmt) : Scope := match s with
 | .FunctionDef _ _ _ _ _ _ sc _ _ _ => sc
 | _ => { kind := .function, names := [], isGenerator := false, isCoroutine := false }
abbrev CX0 : CXT := fun _ _ _ _ _ _ => False
abbrev E0 : XK := fun _ _ _ => False
theorem pass0 {X : Cx} : Passes CX0 X E0 := fun _ _ _ _ _ _ _ h => h.elim
structure Fun (K : PySem.W.Frag) (x qual : Str) (st : Stmt) (f : Addr) (fd : FuncData) : Prop where
 ex : ∃ (oc : Value) (od : Option Addr) (kV doc pm : Value) (an : Option Addr) (cdv ct : Value) (osl : Array (Option Value)),
  fd = PySem.W.fnOf x qual (defArgs st) (defBody st) (defScope st) .none kV doc pm an cdv ct ∧ K.lookup f = some ⟨oc, od, .func fd, osl⟩ ∧ PySem.W.codeIn K cdv qual = true
 kp : PySem.W.keepIn K (.ref f) = true
section
variable {P : Program} {w : World} {K : PySem.W.Frag} {mg : Str → Option Value} {base : Heap}
theorem Fun.ok {x qual : Str} {st : Stmt} {f : Addr} {fd : FuncData} {N ps : List Str} {k : Nat} {sp : Sp} (F : Fun K x qual st f fd) (S : FnScope N ps (defScope st)) (len : ∀ vs H Q E, sp vs H Q E → vs.length = ps.length)
  (hbody : ∀ (cdv : Value) (A : Around) (outer : List Env) (s : Shared) (H : Hp) (vs : List V) (Q : VK) (E : XK), Room k (A.deeper (envOfC qual (defScope st) s.heap.objs.size f cdv)) → sp vs H Q E →
   ∃ t, PSs (cxOf CX0 P w K mg base N qual (defScope st) f cdv A outer s H E).nox (defBody st) t ∧ t { nx := fun _ H' => Q .non H', rt := Q } (start N vs) H) : FnOk P w K mg base CX0 (k + 1) f fd ps sp := by
 obtain ⟨oc, od, kV, doc, pm, an, cdv, ct, osl, rfl, lk, hcd⟩ := F.ex
 refine fn_of lk hcd S len fun A outer s H vs Q E hr hsp => ?_
 obtain ⟨t, h, q⟩ := hbody cdv A outer s H vs Q E hr hsp
 exact ⟨t, h.nox, q⟩
theorem Fun.binds {x qual : Str} {st : Stmt} {f : Addr} {fd : FuncData} {ps : List Str} (F : Fun K x qual st f fd)
  (h : ∀ (kV doc pm : Value) (an : Option Addr) (cdv ct : Value) (us : List Value), us.length = ps.length → bindArgs (PySem.W.fnOf x qual (defArgs st) (defBody st) (defScope st) .none kV doc pm an cdv ct) ⟨us, []⟩ = pure (ps.zip us)) : Binds K fd ps [] := by
 obtain ⟨oc, od, kV, doc, pm, an, cdv, ct, osl, rfl, lk, hcd⟩ := F.ex
 exact .all (h kV doc pm an cdv ct)
theorem fun_mk {x qual : Str} {st : Stmt} {f : Addr} {oc : Value} {od an : Option Addr} {osl : Array (Option Value)} {kV doc pm cdv ct : Value} (l : K.lookup f = some ⟨oc, od, .func (PySem.W.fnOf x qual (defArgs st) (defBody st) (defScope st) .none kV doc pm an cdv ct), osl⟩)
  (c : PySem.W.codeIn K cdv qual = true) (k : PySem.W.keepIn K (.ref f) = true) : Fun K x qual st f (PySem.W.fnOf x qual (defArgs st) (defBody st) (defScope st) .none kV doc pm an cdv ct) := ⟨⟨oc, od, kV, doc, pm, an, cdv, ct, osl, rfl, l, c⟩, k⟩
end
theorem hu_of {A : Around} {k : Nat} (hr : Room k A) : A.units + 1 < cLine := Nat.lt_of_le_of_lt (Nat.add_le_add_left (by decide : 1 ≤ 64) _) hr.units
theorem small1000 {n : Nat} (h : n ≤ 1000) : n < sizeLine := Nat.lt_of_le_of_lt h (by decide)
section
variable {X : Cx}
theorem pv (i : Nat) {x : Str} {pos : Pos} (hN : X.N[i]? = some x := by rfl) (hv : Vis X.env.scope x := by first | exact Or.inl rfl | exact Or.inr (Or.inl rfl) | exact Or.inr (Or.inr rfl)) (hd : (x == ("__debug__" : Str)) = false := by decide)
  (hcd : (x == ("__classdict__" : Str)) = false := by decide) : PE X (.Name x pos) (tVar i) := pe_var hN hv hd hcd
theorem call_lenD : CallR X (.builtin "len") (fun xs H Q => ∃ a kvs, xs = [V.ref a] ∧ H a = some (.dK kvs) ∧ Q (.int kvs.length) H) := by
 intro pins s σ H xs us Q I r h
 obtain ⟨a, kvs, rfl, ha, q⟩ := h
 obtain ⟨u, rfl, ru⟩ := vals1 r
 cases ru
 exact d_len I (.inl ha) fun t s' I' => ⟨.int kvs.length, H, I', ⟨t, rfl⟩, q⟩
end
theorem iteF {A B : Prop} (h : B) : if false = true then A else B := by
 rw [if_neg Bool.false_ne_true]
 exact h
theorem iteT {A B : Prop} (h : A) : if true = true then A else B := by
 rw [if_pos rfl]
 exact h
theorem ite2 {c A B : Prop} [Decidable c] (h1 : c → A) (h2 : ¬ c → B) : if c then A else B := by
 by_cases h : c
 ·rw [if_pos h]
  exact h1 h
 ·rw [if_neg h]
  exact h2 h
def Same (H H' : Hp) : Prop := ∀ b o, H b = some o → H' b = some o
theorem Same.refl (H : Hp) : Same H H := fun _ _ h => h
theorem Same.trans {H H1 H2 : Hp} (a : Same H H1) (b : Same H1 H2) : Same H H2 := fun c o h => b c o (a c o h)
theorem Same.free {H H' : Hp} (e : Same H H') {l : Addr} (h : H' l = Option.none) : H l = Option.none := by
 cases q : H l with
 | none => rfl
 | some o =>
  rw [e l o q] at h
  cases h
section
variable {κ : Type} [DecidableEq κ]
end
end L2
set_option Elab.async false
set_option linter.all false
set_option maxRecDepth 100000
set_option maxHeartbeats 4000000
namespace L2
open PySem PySem.Spec PyProof.Rows
theorem clos_loop {env : Env} : ∀ (l : List (Str × NameKind)) (cs : List (Str × Addr)), (∀ n, (n, NameKind.free) ∈ l → ∃ c, env.cells.lookup n = some c) → (∀ x c, cs.lookup x = some c → env.cells.lookup x = some c) →
  ∃ cl : List (Str × Addr), (forIn l cs (fun x r => if (x.2 == NameKind.free) = true then do let a ← cellOf env x.1; pure (ForInStep.yield ((x.1, a) :: r)) else pure (ForInStep.yield r)) : Sem (List (Str × Addr))) = pure cl ∧
   (∀ x c, cl.lookup x = some c → env.cells.lookup x = some c) ∧ (∀ n, (n, NameKind.free) ∈ l → ∃ c, cl.lookup n = some c) ∧ ∀ n c, cs.lookup n = some c → ∃ c, cl.lookup n = some c
 | [], cs, _, h2 => ⟨cs, rfl, h2, (fun _ z => nomatch z), fun n c e => ⟨c, e⟩⟩
 | (n, k) :: l, cs, h1, h2 => by
  have h1' : ∀ m, (m, NameKind.free) ∈ l → ∃ c, env.cells.lookup m = some c := fun m hm => h1 m (List.mem_cons_of_mem _ hm)
  by_cases hk : k = NameKind.free
  ·subst hk
   obtain ⟨c, hc⟩ := h1 n (List.mem_cons_self ..)
   have h2' : ∀ x d, ((n, c) :: cs).lookup x = some d → env.cells.lookup x = some d := fun x d e => by
    rw [List.lookup_cons] at e
    cases hx : x == n with
    | true =>
     rw [hx] at e
     have ex : x = n := by simpa using hx
     subst ex
     have : c = d := Option.some.inj e
     rw [← this]; exact hc
    | false => rw [hx] at e; exact h2 x d e
   obtain ⟨cl, e1, e2, e3, e4⟩ := clos_loop l ((n, c) :: cs) h1' h2'
   refine ⟨cl, ?_, e2, fun m hm => ?_, fun m d e => ?_⟩
   ·rw [List.forIn_cons]
    simp only [beq_self_eq_true, if_true]
    have ec : cellOf env n = pure c := by unfold cellOf; rw [hc]
    rw [ec]
    simp only [pure_bind]
    exact e1
   ·rcases List.mem_cons.mp hm with z | z
    ·have : m = n := congrArg Prod.fst z
     subst this
     exact e4 m c (by rw [List.lookup_cons]; simp)
    ·exact e3 m z
   ·by_cases hx : m = n
    ·subst hx
     exact e4 m c (by rw [List.lookup_cons]; simp)
    ·exact e4 m d (by
      rw [List.lookup_cons]
      have : (m == n) = false := by simpa using hx
      rw [this]; exact e)
  ·obtain ⟨cl, e1, e2, e3, e4⟩ := clos_loop l cs h1' h2
   refine ⟨cl, ?_, e2, fun m hm => ?_, e4⟩
   ·rw [List.forIn_cons]
    have hb : (k == NameKind.free) = false := by simpa using hk
    simp only [hb, Bool.false_eq_true, if_false, pure_bind]
    exact e1
   ·rcases List.mem_cons.mp hm with z | z
    ·exact absurd (congrArg Prod.snd z).symm hk
    ·exact e3 m z
theorem clos_of {env : Env} {scope : Scope} (h : ∀ n, (n, NameKind.free) ∈ scope.names → ∃ c, env.cells.lookup n = some c) :
  ∃ cl : List (Str × Addr), closureFor scope env = pure cl ∧ (∀ x c, cl.lookup x = some c → env.cells.lookup x = some c) ∧ ∀ n, (n, NameKind.free) ∈ scope.names → ∃ c, cl.lookup n = some c := by
 obtain ⟨cl, e1, e2, e3, _⟩ := clos_loop (env := env) scope.names [] h ((fun x c e => nomatch e))
 refine ⟨cl, ?_, e2, e3⟩
 unfold closureFor
 refine Eq.trans (bind_pure _) (Eq.trans ?_ e1)
 congr 1
theorem comp_loop {prog : Program} {w : World} {A : Around} {R : Result → Shared → Prop} {s : Shared} {elt target iter : Expr} {ifs : List Expr} {scope : Scope} {pos : Pos} {it acc : Value} {env : Env} (I : Nat → Shared → Prop)
  (turn : ∀ n s, I n s → wpAny (model prog w) A (pyNext it) (fun r s1 => match r with
   | none => R (.ok .next) s1
   | some v => wpAny (model prog w) A (letOwnedTupleGo target it v) (fun _ s2 => wpAny (model prog w) A (assign target env v) (fun _ s3 =>
     wpAny (model prog w) A (forIn ifs true fun c r => if r = true then do let ok ← isTrue c env (eval c env); pure (ForInStep.yield ok) else pure (ForInStep.yield r)) (fun ok s4 =>
      if ok = true then wpAny (model prog w) A (eval elt env) (fun x s5 =>
       wpAny (model prog w) A (call (.builtin "list.append") [acc, x]) (fun _ s6 => ∃ m, m < n ∧ I m s6) (fun _ _ => False) s5) (fun _ _ => False) s4
      else ∃ m, m < n ∧ I m s4) (fun _ _ => False) s3) (fun _ _ => False) s2) (fun _ _ => False) s1) (fun _ _ => False) s)
  (n : Nat) (h : I n s) :
  codeAny (model prog w) A (.compLoop (.ListComp elt [⟨target, iter, ifs, 0⟩] scope pos) 0 it acc env) R s := by
 refine codeAny_loop rfl I (fun n s hI => ?_) n h
 show wpAny _ A ((compTurn (.ListComp elt [⟨target, iter, ifs, 0⟩] scope pos) 0 it acc env).onRaise (fun x => do noteFrame x env; theTreesLotGoes x)) _ _ s
 refine wpAny_noted ?_
 rw [compTurn_list]
 refine wpAny_bind (wpAny_standAt (wpAny_bind (wpAny_mono (turn n s hI) (fun r s1 h1 => ?_) fun _ _ h' => h'.elim)))
 cases r with
 | none => exact wpAny_pure h1
 | some v =>
  refine wpAny_bind (wpAny_mono h1 (fun _ s2 h2 => ?_) fun _ _ h' => h'.elim)
  refine wpAny_bind (wpAny_mono h2 (fun _ s3 h3 => wpAny_bind (wpAny_mono h3 (fun ok s4 h4 => ?_) fun _ _ h' => h'.elim)) fun _ _ h' => h'.elim)
  cases ok with
  | false => exact wpAny_pure ⟨rfl, h4⟩
  | true =>
   exact wpAny_bind (wpAny_bind (wpAny_mono h4 (fun x s5 h5 => wpAny_bind (wpAny_mono h5 (fun _ s6 h6 => wpAny_pure (wpAny_pure ⟨rfl, h6⟩)) fun _ _ h' => h'.elim)) fun _ _ h' => h'.elim))
abbrev Cx.comp (X : Cx) (scope : Scope) (N : List Str) (cl : List (Str × Addr)) (C : Addr) (s0 : Shared) (H0 : Hp) (fp : List Addr) : Cx :=
 { X with N := N, s₀ := s0, H₀ := H0, env := compEnvC scope cl C X.env, outer := X.stack, ex := fp, fn := fun _ => false, pn := [], xe := fun _ _ => False }
def PTs (X : Cx) (ifs : List Expr) (t : TT) : Prop :=
 ∀ (pins : List (Addr × Obj)) (s : Shared) (σ : St) (H : Hp) (Q : Bool → Hp → Prop), Inv X pins σ H s → t σ H Q →
  wpAny (model X.prog X.w) X.A (forIn ifs true fun c r => if r = true then do let ok ← isTrue c X.env (eval c X.env); pure (ForInStep.yield ok) else pure (ForInStep.yield r)) (TP X pins σ Q) X.xe s
def tYes : TT := fun _ H Q => Q true H
theorem pts_nil {X : Cx} : PTs X [] tYes := fun _ _ _ H _ I h => wpAny_tests_nil ⟨H, I, h⟩
theorem pts_one {X : Cx} {c : Expr} {t : TT} (h : PT X c t) : PTs X [c] t := fun pins s σ H Q I hw => wpAny_tests_one (h pins s σ H Q I hw)
def capSt (own : Nat) (caps : List Nat) (σ : St) : St := List.replicate own none ++ caps.map fun i => (σ[i]?).join
def capOk (X : Cx) (scope : Scope) (N : List Str) (own : Nat) (caps : List Nat) : Bool :=
 (N.length == own + caps.length) && (caps.zip (N.drop own)).all fun p => X.N[p.1]? == some p.2 && scope.names.lookup p.2 == some NameKind.free && (X.env.kindOf p.2 == some .cell || X.env.kindOf p.2 == some .free)
def scOk (X : Cx) (scope : Scope) : Bool :=
 (scope.kind == .function) && scope.names.all fun p => (p.2 != .cell) && (p.2 != .local || scope.names.lookup p.1 == some .local) && (p.2 != .free || X.env.kindOf p.1 == some .cell || X.env.kindOf p.1 == some .free)
def tComp (own : Nat) (caps : List Nat) (wi : TI) (g : TG) (tt : TT) (te : TE) : TE := fun σ H Q => wi σ H fun J H1 => ∀ D, H1 D = none →
 ∃ W : Nat → Nat → St → Hp → Prop, (∃ m, W 0 m (capSt own caps σ) (upd H1 D (.lst []))) ∧ ∀ i m τ H2, W i m τ H2 →
  (J.stop i H2 ∧ Q (.ref D) H2) ∨ (J.go i H2 ∧ ∃ N : St → Hp → Prop, (∀ τ' H', N τ' H' → ∃ m', m' < m ∧ W (i + 1) m' τ' H') ∧
   ∀ x H3, J.yld i H2 x H3 → g x τ H3 fun τ4 H4 => tt τ4 H4 fun b H5 => if b = true then te τ4 H5 fun v H6 => ∃ xs, H6 D = some (.lst xs) ∧ xs.length < sizeLine ∧ N τ4 (upd H6 D (.lst (xs ++ [v]))) else N τ4 H5)
structure CF (X : Cx) (pins : List (Addr × Obj)) (H : Hp) (C : Addr) : Prop where
 free : H C = none
 loc : C ≠ X.env.locals
 old : X.s₀.heap.objs.size ≤ C
 cel : ∀ x c, X.env.cells.lookup x = some c → c ≠ C
 pin : ∀ p ∈ X.pn ++ pins, p.1 ≠ C
section
variable {X : Cx} {elt tg iter : Expr} {ifs : List Expr} {scope : Scope} {pos : Pos} {N : List Str} {own : Nat} {caps : List Nat} {g : TG} {tt : TT} {te : TE}
theorem comp_block {pins : List (Addr × Obj)} {σ : St} {H2 : Hp} {s2 : Shared} {Q : VK} {it : Addr} {fp : List Addr} {tn : Nat → Heap → Prop} {J : It} {cl : List (Str × Addr)} {E : Value → Shared → Prop} {RR : Value → Addr → Result → Shared → Prop}
  (hc : X.calm = true) (hsc : scOk X scope = true) (hcap : capOk X scope N own caps = true)
  (hg : ∀ cl C s0 H0 fp, PG (X.comp scope N cl C s0 H0 fp) tg g) (ht : ∀ cl C s0 H0 fp, PTs (X.comp scope N cl C s0 H0 fp) ifs tt) (he : ∀ cl C s0 H0 fp, PE (X.comp scope N cl C s0 H0 fp) elt te)
  (hcl1 : ∀ x c, cl.lookup x = some c → X.env.cells.lookup x = some c) (hcl2 : ∀ n, (n, NameKind.free) ∈ scope.names → ∃ c, cl.lookup n = some c)
  (I2 : Inv X pins σ H2 s2) (T : Turn X.prog X.w X.K tg J fp it tn) (st2 : tn 0 s2.heap) (f2 : ∀ b ∈ fp, FpOk X pins H2 b)
  (q : ∀ D, H2 D = none →
   ∃ W : Nat → Nat → St → Hp → Prop, (∃ m, W 0 m (capSt own caps σ) (upd H2 D (.lst []))) ∧ ∀ i m τ H2, W i m τ H2 →
    (J.stop i H2 ∧ Q (.ref D) H2) ∨ (J.go i H2 ∧ ∃ N : St → Hp → Prop, (∀ τ' H', N τ' H' → ∃ m', m' < m ∧ W (i + 1) m' τ' H') ∧
     ∀ x H3, J.yld i H2 x H3 → g x τ H3 fun τ4 H4 => tt τ4 H4 fun b H5 => if b = true then te τ4 H5 fun v H6 => ∃ xs, H6 D = some (.lst xs) ∧ xs.length < sizeLine ∧ N τ4 (upd H6 D (.lst (xs ++ [v]))) else N τ4 H5))
  (hRR : ∀ D C H' s' m, Inv X pins σ H' s' → CF X pins H' C → s'.heap.Ns C m → Q (.ref D) H' → RR (.ref D) C (.ok .next) s') :
  wpAny (model X.prog X.w) X.A (newList []) (fun acc s3 => wpAny (model X.prog X.w) X.A (newFunctionEnv scope X.env.globals cl [] X.env.qual none .none (some X.env)) (fun cenv s4 =>
   codeAny (model X.prog X.w) X.A (.compStart (.ListComp elt [⟨tg, iter, ifs, 0⟩] scope pos) 0 (.ref it) acc { cenv with scope := relabel scope X.env }) (RR acc cenv.locals) s4) E s3) E s2 := by
 simp only [scOk, Bool.and_eq_true, List.all_eq_true, beq_iff_eq] at hsc
 obtain ⟨hkind, hsc⟩ := hsc
 have hcell : ∀ y ∈ scope.names, y.2 ≠ .cell := fun y hy => by have := (hsc y hy).1.1; simpa using this
 refine wpAny_newObj_type (wpAny_newFunctionEnv hcell (by intro y hy; simp at hy) (fun h1 hns1 hsb1 => ?_) hkind)
 dsimp only at hns1 hsb1 ⊢
 generalize hH2 : s2.heap.push { cls := .type "list", dict := none, data := .seq ([] : List Value).toArray } = G at hns1 hsb1 ⊢
 have hC : G.objs.size = s2.heap.objs.size + 1 := by rw [← hH2, Heap.size_push]
 have hDC : s2.heap.objs.size ≠ G.objs.size := by rw [hC]; exact Nat.ne_of_lt (Nat.lt_succ_self _)
 have below : ∀ b, b < s2.heap.objs.size → b ≠ G.objs.size := fun b hb => by rw [hC]; exact Nat.ne_of_lt (Nat.lt_succ_of_lt hb)
 have old : ∀ b o, s2.heap.get? b = some o → h1.get? b = some o := fun b o e => hsb1.extBut b o (below b (Heap.lt_size e)) (Heap.get?_push_of_some _ (hH2 ▸ Heap.get?_push_of_some _ e))
 have hacc : h1.get? s2.heap.objs.size = some { cls := .type "list", dict := none, data := .seq ([] : List Value).toArray } := hsb1.extBut _ _ hDC (Heap.get?_push_of_some _ (hH2 ▸ Heap.get?_push_size _ rfl))
 have freshD : H2 s2.heap.objs.size = none := I2.hok.fresh (Nat.le_refl _)
 have freshC : H2 G.objs.size = none := I2.hok.fresh (by rw [hC]; exact Nat.le_succ _)
 have newC : ∀ H', H' G.objs.size = none → CF X pins H' G.objs.size := fun H' e => by
  have big : s2.heap.objs.size ≤ G.objs.size := by rw [hC]; exact Nat.le_succ _
  obtain ⟨_, f1, _, f3, f4, f5⟩ := I2.fpOk (H' := H') (b := G.objs.size) big e
  exact ⟨e, f1, Nat.le_trans I2.sz big, f4, f5⟩
 have okX : (X.comp scope N cl G.objs.size s2 H2 fp).Ok := by
  refine ⟨I2.ok.mod, ?_, I2.ok.glob, I2.ok.blt, ?_, ?_, ?_, (fun x c z => nomatch z), I2.ok.hd, I2.ok.frames, .inl rfl, ?_, I2.bs, Nat.le_trans I2.ok.bsz I2.sz, ?_, ?_, I2.stack, I2.stkFree⟩
  ·show (relabel scope X.env).kind = .function
   exact hkind
  ·show s2.heap.objs.size ≤ G.objs.size
   rw [hC]; exact Nat.le_succ _
  ·intro x y c e1 e2
   exact I2.ok.inj x y c (hcl1 x c e1) (hcl1 y c e2)
  ·intro x hx
   have key : ∀ (names : List (Str × NameKind)), (∀ y ∈ names, y.2 ≠ .cell) →
     ((names.map fun (n, k) => if (k == NameKind.free && X.env.scope.kind == .function && X.env.kindOf n == some .cell) = true then (n, NameKind.cell) else (n, k)).lookup x = some .cell ∨
      (names.map fun (n, k) => if (k == NameKind.free && X.env.scope.kind == .function && X.env.kindOf n == some .cell) = true then (n, NameKind.cell) else (n, k)).lookup x = some .free) → (x, NameKind.free) ∈ names := by
    intro names
    induction names with
    | nil => intro _ h; rcases h with h | h <;> cases h
    | cons p r ih =>
     obtain ⟨n, k⟩ := p
     intro hne h
     rw [List.map_cons] at h
     cases hx : x == n with
     | true =>
      have ex : x = n := by simpa using hx
      subst ex
      by_cases hk : k = NameKind.free
      ·subst hk; exact List.mem_cons_self ..
      ·exfalso
       have hb : (k == NameKind.free) = false := by simpa using hk
       have hkc : k ≠ .cell := hne (x, k) (List.mem_cons_self ..)
       simp only [hb, Bool.false_and, Bool.false_eq_true, if_false, List.lookup_cons, beq_self_eq_true] at h
       rcases h with h | h
       ·exact hkc (Option.some.inj h)
       ·exact hk (Option.some.inj h)
     | false =>
      refine List.mem_cons_of_mem _ (ih (fun y hy => hne y (List.mem_cons_of_mem _ hy)) ?_)
      by_cases hcd : (k == NameKind.free && X.env.scope.kind == .function && X.env.kindOf n == some .cell) = true
      ·simp only [hcd, if_true, List.lookup_cons, hx] at h; exact h
      ·simp only [hcd, Bool.false_eq_true, if_false, List.lookup_cons, hx] at h; exact h
   exact hcl2 x (key scope.names hcell hx)
  ·intro b hb
   obtain ⟨o, e, _⟩ := T.obj 0 _ st2 b hb
   exact ⟨below b (Heap.lt_size e), fun x c ec => (f2 b hb).2.2.2.2.1 x c (hcl1 x c ec)⟩
  ·intro b o e hb
   rcases (f2 b hb).2.2.2.1 with z | z
   ·exact I2.ok.noex b o e z
   ·exact absurd (Nat.lt_of_lt_of_le (Heap.lt_size e) (Nat.le_trans I2.ok.bsz z)) (Nat.lt_irrefl _)
  ·intro b hb hs
   rcases List.mem_cons.mp (I2.stkSub b hs) with z | z
   ·exact (f2 b hb).2.1 z
   ·exact (f2 b hb).2.2.1 z
 have hokD : HOk X.prog X.w (upd H2 s2.heap.objs.size (.lst [])) h1 := I2.hok.laid old (Nat.le_refl _) ⟨Nat.zero_le _, [], 0, .nil, hacc⟩
 have I4 : ∀ t', Inv (X.comp scope N cl G.objs.size s2 H2 fp) [] (capSt own caps σ) (upd H2 s2.heap.objs.size (.lst [])) { s2 with heap := h1, toks := t' } := fun t' => by
  simp only [capOk, Bool.and_eq_true, List.all_eq_true, beq_iff_eq] at hcap
  obtain ⟨hlen, hcap⟩ := hcap
  refine ⟨okX, rfl, I2.bare, Un.laid old (Nat.le_refl _) freshD, ⟨_, hns1, ?_⟩, ?_, ?_, ?_, (fun p hp => nomatch hp), hokD, ?_⟩
  ·intro i x v e1 e2 e3
   have hio : own ≤ i := by
    refine Nat.le_of_not_lt fun hlt => ?_
    rw [capSt, List.getElem?_append_left (by simpa using hlt), List.getElem?_replicate, if_pos hlt] at e2
    cases e2
   rw [capSt, List.getElem?_append_right (by simpa using hio), List.length_replicate, List.getElem?_map] at e2
   cases ec : caps[i - own]? with
   | none => rw [ec] at e2; cases e2
   | some k =>
    rw [ec] at e2
    have e2' : (σ[k]?).join = some v := Option.some.inj e2
    have hmem : (k, x) ∈ caps.zip (N.drop own) := by
     have e1' : (N.drop own)[i - own]? = some x := by
      rw [List.getElem?_drop]
      have : own + (i - own) = i := by omega
      rw [this]; exact e1
     refine List.mem_iff_getElem?.mpr ⟨i - own, ?_⟩
     rw [List.getElem?_zip_eq_some]
     exact ⟨ec, e1'⟩
    have hk := hcap (k, x) hmem
    simp only [Bool.or_eq_true, beq_iff_eq] at hk
    obtain ⟨⟨hk1, hk2⟩, hk3⟩ := hk
    have hσ : σ[k]? = some (some v) := by
     cases ez : σ[k]? with
     | none => rw [ez] at e2'; cases e2'
     | some o => rw [ez] at e2'; cases o with
      | none => cases e2'
      | some v' => have : v' = v := Option.some.inj e2'; rw [this]
    have hvis : Vis X.env.scope x := .inr hk3
    obtain ⟨m, hn, hl⟩ := I2.loc
    obtain ⟨u, r, l⟩ := hl k x v hk1 hσ hvis
    rcases l with ⟨lk, _⟩ | ⟨lk, c, lc, lz⟩
    ·rcases hk3 with z | z <;> (rw [z] at lk; cases lk)
    ·have hfree : (x, NameKind.free) ∈ scope.names := by
      have key : ∀ (names : List (Str × NameKind)), names.lookup x = some .free → (x, NameKind.free) ∈ names := by
       intro names
       induction names with
       | nil => intro h; cases h
       | cons p r ih =>
        obtain ⟨n, k⟩ := p
        intro h
        rw [List.lookup_cons] at h
        cases hx : x == n with
        | true =>
         rw [hx] at h
         have ex : x = n := by simpa using hx
         have ek : k = .free := Option.some.inj h
         subst ex; subst ek
         exact List.mem_cons_self ..
        | false => rw [hx] at h; exact List.mem_cons_of_mem _ (ih h)
      exact key _ hk2
     obtain ⟨c', hc'⟩ := hcl2 x hfree
     have ecc : c' = c := Option.some.inj ((hcl1 x c' hc').symm.trans lc)
     subst ecc
     refine ⟨u, r, .inr ⟨?_, c', hc', ?_⟩⟩
     ·rcases e3 with z | z | z
      ·
       exfalso
       have key : ∀ (names : List (Str × NameKind)), names.lookup x = some .free →
         (names.map fun (n, k) => if (k == NameKind.free && X.env.scope.kind == .function && X.env.kindOf n == some .cell) = true then (n, NameKind.cell) else (n, k)).lookup x ≠ some .local := by
        intro names
        induction names with
        | nil => intro h; cases h
        | cons p r ih =>
         obtain ⟨n, k⟩ := p
         intro h
         rw [List.lookup_cons] at h
         rw [List.map_cons]
         cases hx : x == n with
         | true =>
          rw [hx] at h
          have ek : k = .free := Option.some.inj h
          subst ek
          by_cases hcd : (NameKind.free == NameKind.free && X.env.scope.kind == .function && X.env.kindOf n == some .cell) = true
          ·simp only [hcd, if_true, List.lookup_cons, hx]; intro z; cases z
          ·simp only [hcd, Bool.false_eq_true, if_false, List.lookup_cons, hx]; intro z; cases z
         | false =>
          rw [hx] at h
          by_cases hcd : (k == NameKind.free && X.env.scope.kind == .function && X.env.kindOf n == some .cell) = true
          ·simp only [hcd, if_true, List.lookup_cons, hx]; exact ih h
          ·simp only [hcd, Bool.false_eq_true, if_false, List.lookup_cons, hx]; exact ih h
       exact key _ hk2 z
      ·exact .inl z
      ·exact .inr z
     ·obtain ⟨o, ho, hd⟩ := lz
      exact ⟨o, old _ o ho, hd⟩
  ·intro x c e
   obtain ⟨v, o, ho, hd⟩ := I2.cell x c (hcl1 x c e)
   exact ⟨v, o, old _ o ho, hd⟩
  ·show upd H2 s2.heap.objs.size (.lst []) G.objs.size = none
   rw [upd_ne (Ne.symm hDC)]; exact freshC
  ·intro x c e
   obtain ⟨v, o, ho, hd⟩ := I2.cell x c (hcl1 x c e)
   show upd H2 s2.heap.objs.size (.lst []) c = none
   rw [upd_ne (Nat.ne_of_lt (Heap.lt_size ho))]
   exact I2.freeC x c (hcl1 x c e)
  ·show (capSt own caps σ).length = N.length
   rw [capSt, List.length_append, List.length_replicate, List.length_map, hlen]
 obtain ⟨W, ⟨m0, w0⟩, turn⟩ := q s2.heap.objs.size freshD
 have stat : ∀ {H' : Hp}, (∀ b ∈ fp, H' b = none) → ∀ b ∈ fp, FpOk (X.comp scope N cl G.objs.size s2 H2 fp) [] H' b := fun hn b hb => by
  obtain ⟨o, e, _⟩ := T.obj 0 _ st2 b hb
  exact ⟨hn b hb, below b (Heap.lt_size e), okX.exfs b hb, .inl hb, fun x c ec => (f2 b hb).2.2.2.2.1 x c (hcl1 x c ec), (fun p hp => nomatch hp)⟩
 have fr0 : ∀ b ∈ fp, upd H2 s2.heap.objs.size (.lst []) b = none := fun b hb => by
  obtain ⟨o, e, _⟩ := T.obj 0 _ st2 b hb
  rw [upd_ne (Nat.ne_of_lt (Heap.lt_size e))]
  exact (f2 b hb).1
 have st1 : tn 0 h1 := T.keep 0 _ _ st2 fun b _ o e => old b o e
 have back : ∀ {σ' : St} {H' : Hp} {s' : Shared}, Inv (X.comp scope N cl G.objs.size s2 H2 fp) [] σ' H' s' → Inv X pins σ H' s' := fun {σ' H' s'} I' =>
  I2.call' (ch := fp) I'.os I'.base I'.hok I'.bare fun b hb => ⟨(f2 b hb).2.2.2.1, (f2 b hb).2.1, (f2 b hb).2.2.2.2.1, (f2 b hb).2.2.2.2.2⟩
 have loop : ∀ s4 : Shared, s4 = { s2 with heap := h1, toks := s2.toks + ([] : List (Str × Value)).length } →
   codeAny (model X.prog X.w) X.A (.compLoop (.ListComp elt [⟨tg, iter, ifs, 0⟩] scope pos) 0 (.ref it) (.ref s2.heap.objs.size) (compEnvC scope cl G.objs.size X.env)) (RR (.ref s2.heap.objs.size) G.objs.size) s4 := by
  rintro s4 rfl
  refine comp_loop (fun n s' => ∃ i τ H', Inv (X.comp scope N cl G.objs.size s2 H2 fp) [] τ H' s' ∧ tn i s'.heap ∧ (∀ b ∈ fp, H' b = none) ∧ W i n τ H') ?_ m0 ⟨0, _, _, I4 _, st1, fr0, w0⟩
  rintro n s3 ⟨i, τ3, H3, I3, st3, fr3, w3⟩
  rcases turn i n τ3 H3 w3 with ⟨stop, qn⟩ | ⟨go, N', hN', step⟩
  ·refine thn (T.done (X.comp scope N cl G.objs.size s2 H2 fp) rfl rfl rfl hc i [] s3 τ3 H3 _ I3 (stat fr3) st3 stop) fun r s4 ⟨hr, I4⟩ => ?_
   subst hr
   obtain ⟨m, hn, _⟩ := I4.loc
   exact hRR _ _ H3 s4 m (back I4) (newC H3 I4.free) hn qn
  ·refine thn (T.item (X.comp scope N cl G.objs.size s2 H2 fp) rfl rfl rfl hc i [] s3 τ3 H3 _ I3 (stat fr3) st3 go) fun r s4 ⟨u, hr, h4⟩ => ?_
   subst hr
   refine thn h4 fun _ s5 ⟨x, H5, I5, r5, y5, st5, fr5⟩ => ?_
   have I5' := I5.pinned (stat fr5) (T.obj _ _ st5)
   refine thn (hg cl _ s2 H2 fp _ s5 τ3 H5 x u _ I5' r5 (step x H5 y5)) fun _ s6 ⟨τ6, H6, I6, q6⟩ => ?_
   refine thn (ht cl _ s2 H2 fp _ s6 τ6 H6 _ I6 q6) fun b s7 ⟨H7, I7, q7⟩ => ?_
   have again : ∀ {τ8 : St} {H8 : Hp} {s8 : Shared}, Inv (X.comp scope N cl G.objs.size s2 H2 fp) ([] ++ pinsAt fp s5.heap) τ8 H8 s8 → N' τ8 H8 →
     ∃ m, m < n ∧ ∃ i τ H', Inv (X.comp scope N cl G.objs.size s2 H2 fp) [] τ H' s8 ∧ tn i s8.heap ∧ (∀ b ∈ fp, H' b = none) ∧ W i m τ H' := fun {τ8 H8 s8} I8 n8 => by
    obtain ⟨m', hm, w8⟩ := hN' τ8 H8 n8
    refine ⟨m', hm, i + 1, τ8, H8, I8.unpinned, T.keep _ _ _ st5 fun b hb o e => (I8.pin (b, o) (List.mem_append_right _ (List.mem_append_right _ (mem_pinsAt hb e)))).1, fun b hb => ?_, w8⟩
    obtain ⟨o, e, d⟩ := T.obj _ _ st5 b hb
    exact (I8.pin (b, o) (List.mem_append_right _ (List.mem_append_right _ (mem_pinsAt hb e)))).2.1
   cases b with
   | false =>
    rw [if_neg (by decide)]
    rw [if_neg (by decide)] at q7
    exact again I7 q7
   | true =>
    rw [if_pos rfl]
    rw [if_pos rfl] at q7
    refine thn (he cl _ s2 H2 fp _ s7 τ6 H7 _ I7 q7) fun u8 s8 ⟨v, H8, I8, r8, xs, hD, hz, n8⟩ => ?_
    refine thn (mt_append _ s8 τ6 H8 (.ref s2.heap.objs.size) [v] (.ref s2.heap.objs.size) [u8] (fun _ H' => N' τ6 H') I8 rfl (.cons r8 .nil) ⟨_, xs, v, rfl, rfl, hD, hz, n8⟩) fun _ s9 ⟨_, H9, I9, _, n9⟩ => ?_
    exact again I9 n9
 exact codeAny_compStart_list (loop _ rfl) (T.self _ 0 _ _ _ st1 (loop _ rfl))
theorem clos_ok {pins : List (Addr × Obj)} {σ : St} {H : Hp} {s : Shared} (I : Inv X pins σ H s) (hsc : scOk X scope = true) :
  ∃ cl : List (Str × Addr), closureFor scope X.env = pure cl ∧ (∀ x c, cl.lookup x = some c → X.env.cells.lookup x = some c) ∧ ∀ n, (n, NameKind.free) ∈ scope.names → ∃ c, cl.lookup n = some c := by
 refine clos_of fun n hn => I.ok.has n ?_
 simp only [scOk, Bool.and_eq_true, List.all_eq_true] at hsc
 have := (hsc.2 (n, .free) hn).2
 simpa using this
theorem sc_names (hsc : scOk X scope = true) : scope.kind = .function ∧ ∀ x ∈ scope.names, x.2 = .local → scope.names.lookup x.1 = some .local := by
 simp only [scOk, Bool.and_eq_true, List.all_eq_true] at hsc
 refine ⟨by simpa using hsc.1, fun x hx hl => ?_⟩
 have := (hsc.2 x hx).1.2
 rw [hl] at this
 simpa using this
theorem pe_comp {wi : TI} (hc : X.calm = true) (hsc : scOk X scope = true) (hcap : capOk X scope N own caps = true) (hi : PI X tg iter wi)
  (hg : ∀ cl C s0 H0 fp, PG (X.comp scope N cl C s0 H0 fp) tg g) (ht : ∀ cl C s0 H0 fp, PTs (X.comp scope N cl C s0 H0 fp) ifs tt) (he : ∀ cl C s0 H0 fp, PE (X.comp scope N cl C s0 H0 fp) elt te)
  (hs : ∀ x, foldedSetIterable iter X.env x = pure x := by intro _; rfl) : PE X (.ListComp elt [⟨tg, iter, ifs, 0⟩] scope pos) (tComp own caps wi g tt te) := by
 intro pins s σ H Q I h
 obtain ⟨cl, hcl, hcl1, hcl2⟩ := clos_ok I hsc
 rw [eval_ListComp]
 refine wpAny_comprehension_free (use := none) rfl hs hcl (sc_names hsc).1 (sc_names hsc).2 (thn (hi pins s σ H _ I h) fun v s1 h1 => thn h1 fun itv s2 h2 => ?_)
 obtain ⟨it, fp, tn, J, H2, e, I2, T, st2, f2, q⟩ := h2
 subst e
 refine comp_block (Q := Q) (RR := fun acc C => compPost (model X.prog X.w) X.A X.xe none (EP X pins σ Q) acc C) hc hsc hcap hg ht he hcl1 hcl2 I2 T st2 f2 q fun D C H' s' m I' F hn hq => ⟨m, hn, fun h' hs' => ?_⟩
 exact ⟨.ref D, H', I'.turned (t' := s'.toks) (fun b o hb e => (hs'.2 b hb).trans e) F.free F.loc (.inr F.old) F.cel F.pin, rfl, hq⟩
theorem ps_setC {wi : TI} {i : Nat} {y : Str} {py spos : Pos} (hN : X.N.Nodup) (hiN : X.N[i]? = some y) (hy : Loc X.env.scope y) (hc : X.calm = true) (hsc : scOk X scope = true) (hcap : capOk X scope N own caps = true) (hi : PI X tg iter wi)
  (hg : ∀ cl C s0 H0 fp, PG (X.comp scope N cl C s0 H0 fp) tg g) (ht : ∀ cl C s0 H0 fp, PTs (X.comp scope N cl C s0 H0 fp) ifs tt) (he : ∀ cl C s0 H0 fp, PE (X.comp scope N cl C s0 H0 fp) elt te)
  (hsw : swapsWith (.ListComp elt [⟨tg, iter, ifs, 0⟩] scope pos) (some (.Name y py)) spos.line X.env = pure true := by rfl)
  (hf : X.fn y = true ∨ X.env.scope.names.lookup y = some .local := by first | exact .inl rfl | exact .inr rfl | assumption)
  (hs : ∀ x, foldedSetIterable iter X.env x = pure x := by intro _; rfl) : PS X (.Assign [.Name y py] (.ListComp elt [⟨tg, iter, ifs, 0⟩] scope pos) spos) (tAsg (tComp own caps wi g tt te) (gName i)) := by
 intro pins s σ H D I h
 obtain ⟨cl, hcl, hcl1, hcl2⟩ := clos_ok I hsc
 rw [exec_Assign_Name_used y py _ spos hsw]
 refine wpAny_bind (wpAny_standAt (wpAny_bind ?_))
 show wpAny _ _ (do let _ ← comprehension (.ListComp elt [⟨tg, iter, ifs, 0⟩] scope pos) scope X.env (firstIterPos [⟨tg, iter, ifs, 0⟩] pos) (newList []) (firstAsync [⟨tg, iter, ifs, 0⟩]) (firstIter [⟨tg, iter, ifs, 0⟩] X.env) (some (assign (.Name y py) X.env))) _ _ s
 refine wpAny_bind ?_
 refine wpAny_comprehension_free (use := some (assign (.Name y py) X.env)) rfl hs hcl (sc_names hsc).1 (sc_names hsc).2 (thn (hi pins s σ H _ I h) fun v s1 h1 => thn h1 fun itv s2 h2 => ?_)
 obtain ⟨it, fp, tn, J, H2, e, I2, T, st2, f2, q⟩ := h2
 subst e
 refine comp_block (Q := fun x H1 => D.nx (σ.set i (some x)) H1) (RR := fun acc C => compPost (model X.prog X.w) X.A X.xe (some (assign (.Name y py) X.env)) _ acc C) hc hsc hcap hg ht he hcl1 hcl2 I2 T st2 f2 q fun DD C H' s' m I' F hn hq => ?_
 show wpAny _ _ (assign (.Name y py) X.env (.ref DD)) _ _ s'
 refine wpAny_assign_Name (store_ok2 (v := .ref DD) I' hN hiN hy rfl (fun s3 I3 ⟨a, sb, ha⟩ => ?_) hf)
 have nCa : C ≠ a := by
  rcases ha with e | e
  ·rw [e]; exact F.loc
  ·exact (F.cel y a e).symm
 refine ⟨m, hn.sameBut sb nCa, fun h' hs' => wpAny_pure (wpAny_pure ⟨σ.set i (some (.ref DD)), H', I3.turned (t' := s3.toks) (fun b o hb e => (hs'.2 b hb).trans e) F.free F.loc (.inr F.old) F.cel F.pin, hq⟩)⟩
end
end L2
set_option Elab.async false
set_option linter.all false
set_option maxRecDepth 100000
set_option maxHeartbeats 4000000
namespace L2
open PySem PySem.Spec PyProof.Rows
section
variable {X : Cx}
theorem comp_by {own : Nat} {caps : List Nat} {J : It} {g : TG} {tt : TT} {te : TE} {σ : St} {H1 : Hp} {Q : Hp → Prop} {D : Addr} (n : Nat) (Pv : Nat → St → Hp → Prop) (h0 : Pv 0 (capSt own caps σ) (upd H1 D (.lst [])))
  (go : ∀ i τ H, i < n → Pv i τ H → J.go i H) (stop : ∀ τ H, Pv n τ H → J.stop n H)
  (hs : ∀ i τ H x H3, i < n → Pv i τ H → J.yld i H x H3 → g x τ H3 fun τ4 H4 => tt τ4 H4 fun b H5 => if b = true then te τ4 H5 fun v H6 => ∃ xs, H6 D = some (.lst xs) ∧ xs.length < sizeLine ∧ Pv (i + 1) τ4 (upd H6 D (.lst (xs ++ [v]))) else Pv (i + 1) τ4 H5)
  (hd : ∀ τ H, Pv n τ H → Q H) :
  ∃ W : Nat → Nat → St → Hp → Prop, (∃ m, W 0 m (capSt own caps σ) (upd H1 D (.lst []))) ∧ ∀ i m τ H2, W i m τ H2 →
   (J.stop i H2 ∧ Q H2) ∨ (J.go i H2 ∧ ∃ N : St → Hp → Prop, (∀ τ' H', N τ' H' → ∃ m', m' < m ∧ W (i + 1) m' τ' H') ∧
    ∀ x H3, J.yld i H2 x H3 → g x τ H3 fun τ4 H4 => tt τ4 H4 fun b H5 => if b = true then te τ4 H5 fun v H6 => ∃ xs, H6 D = some (.lst xs) ∧ xs.length < sizeLine ∧ N τ4 (upd H6 D (.lst (xs ++ [v]))) else N τ4 H5) := by
 refine ⟨fun i m τ H => m = n - i ∧ i ≤ n ∧ Pv i τ H, ⟨n, by simp, Nat.zero_le _, h0⟩, ?_⟩
 rintro i m τ H ⟨rfl, hi, p⟩
 by_cases hlt : i < n
 ·exact .inr ⟨go i τ H hlt p, Pv (i + 1), fun τ' H' p' => ⟨n - (i + 1), by omega, rfl, hlt, p'⟩, fun x H3 y => hs i τ H x H3 hlt p y⟩
 ·have e : i = n := by omega
  subst e
  exact .inl ⟨stop τ H p, hd τ H p⟩
theorem call_str_text : CallR X (.type "str") (fun xs H Q => ∃ z, xs = [.str z] ∧ Q (.str z) H) := by
 intro pins s σ H xs us Q I r h
 obtain ⟨z, rfl, q⟩ := h
 obtain ⟨u, rfl, t, rfl⟩ := vals1 r
 exact PySem.P.str_of_str ⟨.str z, H, I, ⟨t, rfl⟩, q⟩
def strV : V → Str
 | .int i => (toString i : String)
 | .str z => z
 | _ => Str.empty
theorem call_str_val : CallR X (.type "str") (fun xs H Q => ∃ x, xs = [x] ∧ ((∃ i, x = .int i ∧ i.natAbs.log2 < 1920) ∨ ∃ z, x = .str z) ∧ Q (.str (strV x)) H) := by
 intro pins s σ H xs us Q I r h
 obtain ⟨x, rfl, hx, q⟩ := h
 rcases hx with ⟨i, rfl, hi⟩ | ⟨z, rfl⟩
 ·exact call_str_int pins s σ H _ us Q I r ⟨i, rfl, hi, q⟩
 ·exact call_str_text pins s σ H _ us Q I r ⟨z, rfl, q⟩
theorem strs_of : ∀ {ys : List Str} {us : List Value}, Vals (ys.map V.str) us → StrsAre us ys
 | [], us, r => by rw [List.map_nil] at r; cases r; exact .nil
 | y :: ys, us, r => by
  rw [List.map_cons] at r
  cases r with
  | cons r1 r2 =>
   obtain ⟨t, e⟩ := r1
   subst e
   exact .cons y t (strs_of r2)
theorem mt_join : MtR X "str.join" (fun x xs H Q => ∃ (z : Str) (l : Addr) (ys : List Str), x = .str z ∧ xs = [.ref l] ∧ SqL X.K H l (ys.map V.str) ∧ (ys.map (·.length)).sum + ys.length * z.length ≤ 16777216 ∧ Q (.str (Txt.join z ys)) H) := by
 intro pins s σ H x xs v us Q I rx rv h
 obtain ⟨z, l, ys, rfl, rfl, hl, hz, q⟩ := h
 obtain ⟨t, rfl⟩ := rx
 obtain ⟨u, rfl, ru⟩ := vals1 rv
 cases ru
 obtain ⟨its, r, p, _⟩ := I.list hl
 exact join_list p.isList (by simpa using strs_of r) hz fun t' k => ⟨.str _, H, I.tok _, ⟨_, rfl⟩, q⟩
theorem call_isiT : CallR X (.builtin "isinstance") (fun xs H Q => ∃ x T t b, xs = [x, .ty T] ∧ TyOf X.K H x t ∧ PySem.W.kitOne X.K t (.type T) = some b ∧ Q (.bl b) H) := by
 intro pins s σ H xs us Q I r h
 obtain ⟨x, T, t, b, rfl, ty, hk, q⟩ := h
 obtain ⟨v, w', rfl, rx, rw'⟩ := vals2 r
 cases rw'
 exact isinst_ok I rx ty hk fun tk => ⟨.bl b, H, I.tok tk, rfl, q⟩
def eqL : List V → List V → Bool
 | [], [] => true
 | x :: xs, y :: ys => eqV x y && eqL xs ys
 | _, _ => false
theorem eqL_range : ∀ {xs ys : List V}, xs.length = ys.length → (List.range xs.length).all (fun j => eqV (xs.getD j .non) (ys.getD j .non)) = eqL xs ys
 | [], [], _ => rfl
 | x :: xs, y :: ys, h => by
  have h' : xs.length = ys.length := Nat.succ.inj h
  rw [List.length_cons, List.range_succ_eq_map, List.all_cons, List.all_map, eqL, ← eqL_range h']
  rfl
theorem eqL_len : ∀ {xs ys : List V}, xs.length ≠ ys.length → eqL xs ys = false
 | [], [], h => absurd rfl h
 | [], _ :: _, _ => rfl
 | _ :: _, [], _ => rfl
 | x :: xs, y :: ys, h => by
  rw [eqL, eqL_len fun e => h (by rw [List.length_cons, List.length_cons, e]), Bool.and_false]
def rEqL (K : PySem.W.Frag) (neg : Bool) : R2 := fun x y H Q => ∃ a b xs ys, x = .ref a ∧ y = .ref b ∧ SqL K H a xs ∧ SqL K H b ys ∧ xs.all flatV = true ∧ ys.all flatV = true ∧ Q (.bl (if neg then !eqL xs ys else eqL xs ys)) H
theorem eqAt_items {A : Around} {s : Shared} {xs ys : List V} {us ws : List Value} (r : Vals xs us) (q : Vals ys ws) (fx : xs.all flatV = true) (fy : ys.all flatV = true) :
  ∀ j (h1 : j < us.toArray.size) (h2 : j < ws.toArray.size), SeqAt.EqAt A s us.toArray[j] ws.toArray[j] (eqV (xs.getD j .non) (ys.getD j .non)) := by
 intro j h1 h2
 have h1' : j < us.length := by simpa using h1
 have h2' : j < ws.length := by simpa using h2
 have hx : j < xs.length := by rw [r.length]; exact h1'
 have hy : j < ys.length := by rw [q.length]; exact h2'
 obtain ⟨u, eu, ru⟩ := r.get (i := j) (x := xs[j]) (List.getElem?_eq_getElem hx)
 obtain ⟨w', ew, rw'⟩ := q.get (i := j) (x := ys[j]) (List.getElem?_eq_getElem hy)
 have e1 : us.toArray[j] = u := by
  have : us[j]? = some us[j] := List.getElem?_eq_getElem h1'
  rw [this] at eu
  simpa using Option.some.inj eu
 have e2 : ws.toArray[j] = w' := by
  have : ws[j]? = some ws[j] := List.getElem?_eq_getElem h2'
  rw [this] at ew
  simpa using Option.some.inj ew
 rw [e1, e2, List.getD_eq_getElem?_getD, List.getD_eq_getElem?_getD, List.getElem?_eq_getElem hx, List.getElem?_eq_getElem hy]
 exact eqAt_V ru rw' (List.all_eq_true.mp fx _ (List.getElem_mem hx)) (List.all_eq_true.mp fy _ (List.getElem_mem hy))
theorem op_eqL (hu : X.A.units < cLine) : OpR X (compareOp .Eq) (rEqL X.K false) := by
 intro pins s σ H x y v u Q I rx ry h
 obtain ⟨a, b, xs, ys, rfl, rfl, ha, hb, fx, fy, q⟩ := h
 cases rx; cases ry
 obtain ⟨us, r1, p1, z1⟩ := I.list ha
 obtain ⟨ws, r2, p2, z2⟩ := I.list hb
 by_cases hl : xs.length = ys.length
 ·refine SeqAt.eq_listAt (e := fun j => eqV (xs.getD j .non) (ys.getD j .non)) p1.isList p2.isList (by simp [← r1.length, ← r2.length, hl]) hu (eqAt_items r1 r2 fx fy) ?_
  rw [List.size_toArray, ← r1.length, eqL_range hl]
  exact ⟨.bl _, H, I, rfl, q⟩
 ·refine SeqAt.eq_list_lengthsAt p1.isList p2.isList (by simp [← r1.length, ← r2.length, hl]) hu ?_
  rw [if_neg (by decide), eqL_len hl] at q
  exact ⟨.bl false, H, I, rfl, q⟩
theorem op_neL (hu : X.A.units < cLine) : OpR X (compareOp .NotEq) (rEqL X.K true) := by
 intro pins s σ H x y v u Q I rx ry h
 obtain ⟨a, b, xs, ys, rfl, rfl, ha, hb, fx, fy, q⟩ := h
 cases rx; cases ry
 obtain ⟨us, r1, p1, z1⟩ := I.list ha
 obtain ⟨ws, r2, p2, z2⟩ := I.list hb
 by_cases hl : xs.length = ys.length
 ·refine SeqAt.RcNeAt.lists (e := fun j => eqV (xs.getD j .non) (ys.getD j .non)) p1.isList p2.isList (by simp [← r1.length, ← r2.length, hl]) hu (eqAt_items r1 r2 fx fy) X.prog X.w _ _ ?_
  rw [List.size_toArray, ← r1.length, eqL_range hl]
  exact ⟨.bl _, H, I, rfl, q⟩
 ·refine SeqAt.RcNeAt.lists_lengths p1.isList p2.isList (by simp [← r1.length, ← r2.length, hl]) hu X.prog X.w _ _ ?_
  rw [if_pos rfl, eqL_len hl] at q
  exact ⟨.bl true, H, I, rfl, q⟩
def CDivB (i j : Int) : Prop := 0 < j ∧ j < 2 ^ 64
theorem op_fdivB : OpR X (binaryOp .FloorDiv) (rI CDivB fun i j => .int (i / j)) := opI fun i j _ _ _ _ _ hc q => by
 refine floordiv_int (by have := hc.1; omega) ?_ (.inl (PyProof.noPylong_of_log2 ?_))
 ·rw [Int.fdiv_eq_ediv_of_nonneg _ (Int.le_of_lt hc.1)]; exact q
 ·have hj : j.natAbs < 2 ^ 64 := by have h1 := hc.1; have h2 := hc.2; omega
  by_cases h0 : j.natAbs = 0
  ·rw [h0]; decide +kernel
  ·have := (Nat.log2_lt h0).mpr hj
   omega
end
end L2
namespace L2
open PySem PySem.Spec PyProof.Rows
structure Fx (K : PySem.W.Frag) (mg : Str → Option Value) (x : Str) (st : Stmt) (ps : List Str) where
 f : Addr
 fd : FuncData
 fn : Fun K x x st f fd
 bi : Binds K fd ps []
 gl : mg x = some (.ref f)
theorem pe_own {X : Cx} {x : Str} {st : Stmt} {ps : List Str} {k : Nat} {sp : Sp} {e : Expr} {es : List Expr} {t : TA} {p pos : Pos} {F : Fx X.K X.mg x st ps} (G : FnOk X.prog X.w X.K X.mg X.base CX0 k F.f F.fd ps sp) (hr : Room k X.A) (hg : Gl X x) (ha : PA X (e :: es) t)
  (hdb : (x == ("__debug__" : Str)) = false := by decide) (he : starEach (e :: es) X.env = (false, eval e X.env) :: starEach es X.env := by rfl) (hpl : (backTo pos (starEach es X.env)).any (·.1) = false := by rfl) :
  PE X (.Call (.Name x p) (e :: es) [] pos) (tCall sp [] E0 t) := pe_call G hr hg F.gl F.fn.kp F.bi .nil pass0 ha hdb he hpl
theorem Same.upd {H H' : Hp} {a : Addr} {o : HO} (s : Same H H') (h : H a = none) : Same H (L2.upd H' a o) := fun b u e => by
 rw [upd_ne (ne_of_none e h)]; exact s b u e
theorem Same.new {H : Hp} {a : Addr} {o : HO} (h : H a = none) : Same H (L2.upd H a o) := (Same.refl H).upd h
theorem kit_same {K : PySem.W.Frag} {T : String} : PySem.W.kitOne K (.type T) (.type T) = some true := by
 unfold PySem.W.kitOne; rw [if_pos (by simp)]
end L2
namespace L2
open PySem PySem.Spec PyProof.Rows
theorem bt_len : bootBuiltins "len" = some (.builtin "len") := by decide +kernel
theorem bt_isinstance : bootBuiltins "isinstance" = some (.builtin "isinstance") := by decide +kernel
theorem bt_max : bootBuiltins "max" = some (.builtin "max") := by decide +kernel
theorem bt_min : bootBuiltins "min" = some (.builtin "min") := by decide +kernel
theorem bt_sorted : bootBuiltins "sorted" = some (.builtin "sorted") := by decide +kernel
theorem bt_int : bootBuiltins "int" = some (.type "int") := by decide +kernel
theorem bt_str : bootBuiltins "str" = some (.type "str") := by decide +kernel
theorem bt_bool : bootBuiltins "bool" = some (.type "bool") := by decide +kernel
theorem bt_dict : bootBuiltins "dict" = some (.type "dict") := by decide +kernel
theorem atI_pos {α : Type} {xs : List α} {i : Int} {v : α} (h0 : 0 ≤ i) (h : xs[i.toNat]? = some v) : atI xs i = some v := by
 have e : i = ((i.toNat : Nat) : Int) := by omega
 rw [e]
 exact atI_nat (by simpa using h)
theorem atI_ints {ds : List Int} {i : Int} (h0 : 0 ≤ i) (h1 : i < ds.length) : atI (ds.map V.int) i = some (.int (ds.getD i.toNat 0)) := by
 refine atI_pos h0 ?_
 have hj : i.toNat < ds.length := by omega
 rw [List.getElem?_map, List.getD_eq_getElem?_getD, List.getElem?_eq_getElem hj]
 rfl
theorem atI_strs {ys : List Str} {i : Int} (h0 : 0 ≤ i) (h1 : i < ys.length) : atI (ys.map V.str) i = some (.str (ys.getD i.toNat Str.empty)) := by
 refine atI_pos h0 ?_
 have hj : i.toNat < ys.length := by omega
 rw [List.getElem?_map, List.getD_eq_getElem?_getD, List.getElem?_eq_getElem hj]
 rfl
theorem atI_nats {ys : List Nat} {i : Int} (h0 : 0 ≤ i) (h1 : i < ys.length) : atI ys i = some (ys.getD i.toNat 0) := by
 refine atI_pos h0 ?_
 have hj : i.toNat < ys.length := by omega
 rw [List.getD_eq_getElem?_getD, List.getElem?_eq_getElem hj]
 rfl
theorem small_line {n : Nat} (h : n ≤ 100000) : n ≤ sizeLine := Nat.le_trans h (by rw [sizeLine_eq]; decide)
theorem small_line1 {n : Nat} (h : n < 100000) : n < sizeLine := Nat.lt_of_lt_of_le h (by rw [sizeLine_eq]; decide)
end L2
namespace L2
open PySem PySem.Spec PyProof.Rows
section
variable {X : Cx} {K : PySem.W.Frag}
theorem ix_listK (h : X.K = K) : IxR X (rIxL K) := h ▸ ix_list
theorem ix_tupK (h : X.K = K) : IxR X (rIxT K) := h ▸ ix_tup
theorem sl_tupK (h : X.K = K) : SlR X (rSlT K) := h ▸ sl_tup
theorem op_eqLK (h : X.K = K) (hu : X.A.units < cLine) : OpR X (compareOp .Eq) (rEqL K false) := h ▸ op_eqL hu
theorem op_neLK (h : X.K = K) (hu : X.A.units < cLine) : OpR X (compareOp .NotEq) (rEqL K true) := h ▸ op_neL hu
theorem call_len_seqK (h : X.K = K) : CallR X (.builtin "len") (fun xs H Q => ∃ p ys, xs = [.ref p] ∧ (SqL K H p ys ∨ SqT K H p ys) ∧ Q (.int ys.length) H) := h ▸ call_len_seq
theorem call_isiTK (h : X.K = K) : CallR X (.builtin "isinstance") (fun xs H Q => ∃ x T t b, xs = [x, .ty T] ∧ TyOf K H x t ∧ PySem.W.kitOne K t (.type T) = some b ∧ Q (.bl b) H) := h ▸ call_isiT
theorem mt_joinK (h : X.K = K) : MtR X "str.join" (fun x xs H Q => ∃ (z : Str) (l : Addr) (ys : List Str), x = .str z ∧ xs = [.ref l] ∧ SqL K H l (ys.map V.str) ∧ (ys.map (·.length)).sum + ys.length * z.length ≤ 16777216 ∧ Q (.str (Txt.join z ys)) H) := h ▸ mt_join
theorem pi_listK {tg l : Expr} {tl : TE} (h : X.K = K) (hl : PE X l tl) : PI X tg l (iList K tl) := h ▸ pi_list hl
variable {o e : Expr} {es : List Expr} {to : TE} {t : TA} {name : Str} {apos cpos : Pos} {T id : String} {r : V → List V → Hp → VK → Prop}
theorem pe_bmK (h : X.K = K) (pa : PlainAttrs T) (slot : Slot T name id) (hty : typeOf (.builtin id) = pure (.type "method_descriptor")) (hm : MtR X id r) (ho : PE X o to) (ha : PA X (e :: es) t)
  (hbase : attributeBase o name X.env (eval o X.env) = eval o X.env := by rfl)
  (hfew : ((backTo cpos (starEach (e :: es) X.env)).all (fun x => !x.1) && (backToKw cpos (keywordEach [] X.env)).all (fun x => x.1.isSome)
   && decide ((e :: es).length + ([] : List Keyword).length + (if ([] : List Keyword).isEmpty then 0 else 1) < 30)) = true := by rfl)
  (hline : (apos.endLine == cpos.line) = true := by rfl) (hs : starEach (e :: es) X.env = (false, eval e X.env) :: starEach es X.env := by rfl) (hplain : (backTo cpos (starEach es X.env)).any (·.1) = false := by rfl) :
  PE X (.Call (.Attribute o name apos) (e :: es) [] cpos) (tBM K T r to t) := h ▸ pe_bm pa slot hty hm ho ha hbase hfew hline hs hplain
theorem pe_fldK {f : Str} {pos : Pos} {ta : TE} (h : X.K = K) (he : PE X e ta) (hb : attributeBase e f X.env (eval e X.env) = eval e X.env) : PE X (.Attribute e f pos) (tFld K ta f) := h ▸ pe_fld he hb
theorem pg_tupK {es : List Expr} {k n : Nat} {t : TGs} {pos : Pos} (hK : X.K = K) (hc : X.calm = true) (h : PGs X es t)
  (hn : (assignEach es X.env).length = n := by rfl) (hst : (assignEach es X.env).findIdx? (·.1) = none := by rfl) : PG X (.Tuple es k pos) (gTup K n t) := hK ▸ pg_tup hc h hn hst
end
end L2
set_option Elab.async false
set_option linter.all false
set_option maxRecDepth 100000
set_option maxHeartbeats 4000000
namespace L2
open PySem PySem.Spec PyProof.Rows
structure Mx (K : PySem.W.Frag) (C : Addr) (m qual : Str) (st : Stmt) (ps : List Str) where
 f : Addr
 fd : FuncData
 fn : Fun K m qual st f fd
 bi : Binds K fd ps []
 me : Meth K C m f
section
variable {X : Cx} {C : Addr} {m qual : Str} {st : Stmt} {ps : List Str} {k : Nat} {sp : Sp} {o e : Expr} {es : List Expr} {ta : TE} {t : TA} {apos pos : Pos}
theorem pe_mown {pl : Sem Bool} {F : Mx X.K C m qual st ps} (c : Cls X.K C) (G : FnOk X.prog X.w X.K X.mg X.base CX0 k F.f F.fd ps sp) (hr : Room k X.A) (ho : PE X o ta) (ha : PA X (e :: es) t)
  (hst : starEach (e :: es) X.env = (false, eval e X.env) :: starEach es X.env := by rfl) (hpl : (backTo pos (starEach es X.env)).any (·.1) = false := by rfl)
  (ht : eval (.Call (.Attribute o m apos) (e :: es) [] pos) X.env = (do
   let ov ← eval o X.env
   standAt apos.atName
   let (f, first) ← holding [ov] (getMethod ov m pl)
   callWith pos f first (backTo pos (starEach (e :: es) X.env)) (backToKw pos (keywordEach [] X.env))) := by rfl) :
  PE X (.Call (.Attribute o m apos) (e :: es) [] pos) (tMeth C m sp [] E0 ta t) := pe_meth ho c F.me G hr F.bi .nil pass0 ha hst hpl ht
theorem pe_mown0 {pl : Sem Bool} {F : Mx X.K C m qual st ps} (c : Cls X.K C) (G : FnOk X.prog X.w X.K X.mg X.base CX0 k F.f F.fd ps sp) (hr : Room k X.A) (ho : PE X o ta)
  (ht : eval (.Call (.Attribute o m apos) [] [] pos) X.env = (do
   let ov ← eval o X.env
   standAt apos.atName
   let (f, first) ← holding [ov] (getMethod ov m pl)
   callWith pos f first (backTo pos (starEach [] X.env)) (backToKw pos (keywordEach [] X.env))) := by rfl) :
  PE X (.Call (.Attribute o m apos) [] [] pos) (tMeth C m sp [] E0 ta tNil) := pe_meth0 ho c F.me G hr F.bi .nil pass0 ht
end
section
variable {X : Cx}
theorem call_isiRK {K : PySem.W.Frag} (h : X.K = K) : CallR X (.builtin "isinstance") (fun xs H Q => ∃ x c t b, xs = [x, .ref c] ∧ TyOf K H x t ∧ PySem.W.kitOne K t (.ref c) = some b ∧ Q (.bl b) H) := by
 subst h
 intro pins s σ H xs us Q I r h
 obtain ⟨x, c, t, b, rfl, ty, hk, q⟩ := h
 obtain ⟨v, w', rfl, rx, rw'⟩ := vals2 r
 cases rw'
 exact isinst_ok I rx ty hk fun tk => ⟨.bl b, H, I.tok tk, rfl, q⟩
end
section
variable {prog : Program} {w : World} {A : Around} {E : Value → Shared → Prop}
end
section
variable {X : Cx}
end
end L2
set_option Elab.async false
set_option linter.all false
set_option maxRecDepth 100000
set_option maxHeartbeats 4000000
namespace L2
open PySem PySem.Spec PyProof.Rows
def Trc (h : Heap) (a : Addr) (cls : Value) (dd : Option Addr) (T : Addr) : Prop :=
 ∃ oe vs oT ts, h.get? a = some oe ∧ oe.cls = cls ∧ oe.dict = dd ∧ oe.data = .fields vs ∧ vs[1]? = some (.ref T) ∧ T ≠ a ∧ h.get? T = some oT ∧ oT.data = .fields ts ∧ ts[3]? = some .none
structure Lft (fs xs : List Addr) (h h' : Heap) : Prop where
 keep : ∀ b o, h.get? b = some o → b ∉ fs → b ∉ xs → h'.get? b = some o
 slot : ∀ b o, h.get? b = some o → b ∈ fs → (∀ vs, o.data ≠ .fields vs) → ∃ sl, h'.get? b = some { o with slots := sl }
 there : ∀ b o, h.get? b = some o → b ∉ xs → b ∈ fs → (∀ vs, o.data ≠ .fields vs) → ∃ o', h'.get? b = some o'
section
variable {M : Model} {A : Around} {E : Value → Shared → Prop} {s : Shared} {base : Heap} {env : Env} {outer : List Env} {L e : Addr} {Q : Unit → Shared → Prop}
theorem map_dict {o : Obj} {g : Array Value → Array Value} : (Obj.mapFields g o).dict = o.dict := by
 unfold Obj.mapFields
 split <;> rfl
theorem leave_entry {oe : Obj} {vs : Array Value} {head : Value} {hn : Bool} (hfr : A.frames = some (env :: outer)) (hl : s.heap.FunFrames base (env :: outer)) (hf : env.frame = some L) (he : s.heap.get? e = some oe)
  (hd : oe.data = .fields vs) (hsz : 1 < vs.size) (hQ : ∀ h' T, Lft (frs (env :: outer)) [e] s.heap h' → Trc h' e oe.cls oe.dict T → s.heap.get? T = none → Q () { s with heap := h' }) :
  wpAny M A (do let a ← frameOf env; let pl ← entryPlaceOf L hn; let b ← EntryCells.newEntry head a .none (rawInt L) .none pl; setField (.ref e) 1 b) (fun _ s' => wpAny M A (setFlight (.ref e) none) Q E s') E s := by
 have ef : e ∉ frs (env :: outer) := fun m => by
  obtain ⟨_, o, ho, nf⟩ := hl.mem m
  rw [he] at ho
  cases ho
  exact nf vs hd
 refine wpAny_bind (wpAny_frameOf_fun hfr hl hf fun g1 so => wpAny_bind (wpAny_entryPlaceOf fun p5 ok5 => ?_))
 unfold EntryCells.newEntry
 unfold newFields
 refine wpAny_bind (wpAny_newObj_type ?_ (ok5.sizeOk5 ..))
 have he1 : g1.get? e = some oe := (so.2.1 e ef).trans he
 have hTe : g1.objs.size ≠ e := Nat.ne_of_gt (Heap.lt_size he1)
 generalize hob : ({ cls := .type "traceback", dict := none, data := .fields ([head, .ref L, .none, rawInt L, .none] ++ (if p5.isEmpty then List.replicate 6 Value.none else p5)).toArray } : Obj) = ob
 obtain ⟨ts, hts, h3⟩ : ∃ ts, ob.data = .fields ts ∧ 3 < ts.size := ⟨_, by rw [← hob], by simp only [List.size_toArray, List.length_append, List.length_cons, List.length_nil]; omega⟩
 have hfree : ob.isFreed = false := Obj.isFreed_of_fields hts
 have he2 : (g1.push ob).get? e = some oe := Heap.get?_push_of_some ob he1
 refine wpAny_setField he2 hd hsz ?_
 have d3 := Obj.data_mapFields hd (·.setIfInBounds 1 (Value.ref g1.objs.size))
 have he3 := Heap.get?_update_self (Obj.mapFields (·.setIfInBounds 1 (Value.ref g1.objs.size))) he2 (Obj.isFreed_of_fields d3)
 have hT3 : ((g1.push ob).update e (Obj.mapFields (·.setIfInBounds 1 (Value.ref g1.objs.size)))).get? g1.objs.size = some ob := (Heap.get?_update_other _ _ hTe.symm).trans (Heap.get?_push_size g1 hfree)
 unfold setFlight
 refine wpAny_bind (wpAny_field he3 d3 (x := .ref g1.objs.size) (by simp [hsz]) ?_)
 rw [if_pos (by simp)]
 refine wpAny_setField hT3 hts h3 (hQ _ g1.objs.size ?_ ?_ ?_)
 ·have kp : ∀ b o, b ≠ e → g1.get? b = some o → (((g1.push ob).update e (Obj.mapFields (·.setIfInBounds 1 (Value.ref g1.objs.size)))).update g1.objs.size (Obj.mapFields (·.setIfInBounds 3 ((none : Option Addr).elim Value.none fun f => rawInt f)))).get? b = some o := fun b o hb q => by
   rw [Heap.get?_update_other _ _ (Nat.ne_of_gt (Heap.lt_size q)), Heap.get?_update_other _ _ (Ne.symm hb)]
   exact Heap.get?_push_of_some _ q
  have ne : ∀ b o, s.heap.get? b = some o → (∀ vs, o.data ≠ .fields vs) → b ≠ e := fun b o q nf z => by
   rw [z, he] at q
   cases q
   exact nf vs hd
  refine ⟨fun b o q h1 h2 => kp b o (fun z => h2 (by simp [z])) ((so.2.1 b h1).trans q), fun b o q _ nf => ?_, fun b o q _ _ nf => ?_⟩
  ·obtain ⟨sl, z⟩ := so.2.2 b o q
   exact ⟨sl, kp b _ (ne b o q nf) z⟩
  ·obtain ⟨sl, z⟩ := so.2.2 b o q
   exact ⟨_, kp b _ (ne b o q nf) z⟩
 ·refine ⟨_, _, _, _, (Heap.get?_update_other _ _ hTe).trans he3, Obj.cls_mapFields _ _, map_dict, d3, by simp [hsz], hTe, Heap.get?_update_self _ hT3 (Obj.isFreed_of_fields (Obj.data_mapFields hts _)), Obj.data_mapFields hts _, by simp [h3]⟩
 ·exact Heap.get?_none_of_le (Nat.le_of_eq so.1.symm)
theorem leave_first {oe : Obj} {vs : Array Value} (hfr : A.frames = some (env :: outer)) (hl : s.heap.FunFrames base (env :: outer)) (hf : env.frame = some L) (he : s.heap.get? e = some oe) (hd : oe.data = .fields vs)
  (h1 : vs[1]? = some .none) (hQ : ∀ h' T, Lft (frs (env :: outer)) [e] s.heap h' → Trc h' e oe.cls oe.dict T → s.heap.get? T = none → Q () { s with heap := h' }) : wpAny M A (leaving env (.ref e)) Q E s := by
 unfold leaving
 unfold noteFrame
 simp only [hf]
 refine wpAny_bind (wpAny_bind (wpAny_field he hd h1 ?_))
 rw [if_neg (by simp)]
 exact leave_entry hfr hl hf he hd (Array.getElem?_eq_some_iff.mp h1).1 hQ
theorem note_next {T0 : Addr} {cls : Value} {dd : Option Addr} (hfr : A.frames = some (env :: outer)) (hl : s.heap.FunFrames base (env :: outer)) (hf : env.frame = some L) (t0 : Trc s.heap e cls dd T0)
  (hQ : ∀ h' T, Lft (frs (env :: outer)) [e, T0] s.heap h' → Trc h' e cls dd T → s.heap.get? T = none → Q () { s with heap := h' }) : wpAny M A (noteFrame (.ref e) env) (fun _ s2 => wpAny M A (setFlight (.ref e) none) Q E s2) E s := by
 obtain ⟨oe, vs, oT, ts, t1, t2, t3, t4, t5, t6, t7, t8, t9⟩ := id t0
 subst t2 t3
 have hd3 := Obj.data_mapFields t8 (·.setIfInBounds 3 Value.none)
 have oth : ∀ b, b ≠ T0 → (s.heap.update T0 (Obj.mapFields (·.setIfInBounds 3 Value.none))).get? b = s.heap.get? b := fun b hb => Heap.get?_update_other _ _ hb.symm
 have nf : ∀ b o, s.heap.get? b = some o → (∀ vs, o.data ≠ .fields vs) → b ≠ T0 := fun b o q nf z => by
  rw [z, t7] at q
  cases q
  exact nf _ t8
 have hl1 : (s.heap.update T0 (Obj.mapFields (·.setIfInBounds 3 Value.none))).FunFrames base (env :: outer) := hl.of_keeps fun b o q n => ⟨o, (oth b (nf b o q n)).trans q, rfl⟩
 unfold noteFrame
 simp only [hf]
 refine wpAny_bind (wpAny_field t1 t4 t5 ?_)
 rw [if_pos (by simp)]
 refine wpAny_bind (wpAny_field t7 t8 t9 ?_)
 rw [if_neg (by simp [rawInt])]
 refine wpAny_bind (wpAny_setField t7 t8 (Array.getElem?_eq_some_iff.mp t9).1 ?_)
 refine leave_entry hfr hl1 hf ((oth e t6.symm).trans t1) t4 (Array.getElem?_eq_some_iff.mp t5).1 fun h' T l t n => hQ h' T ⟨fun b o q h1 h2 => ?_, fun b o q h1 n => ?_, fun b o q h1 h2 n => ?_⟩ t ?_
 ·exact l.keep b o ((oth b fun z => h2 (by simp [z])).trans q) h1 fun z => h2 (by simp [List.mem_singleton.mp z])
 ·exact l.slot b o ((oth b (nf b o q n)).trans q) h1 n
 ·obtain ⟨sl, z⟩ := l.slot b o ((oth b (nf b o q n)).trans q) h2 n
  exact ⟨_, z⟩
 ·cases z : s.heap.get? T with
  | none => rfl
  | some o =>
   by_cases hT : T = T0
   ·subst hT
    rw [Heap.get?_update_self _ t7 (Obj.isFreed_of_fields hd3)] at n
    cases n
   ·have n' := n
    rw [oth T hT, z] at n'
    cases n'
theorem leave_next {T0 : Addr} {cls : Value} {dd : Option Addr} (hfr : A.frames = some (env :: outer)) (hl : s.heap.FunFrames base (env :: outer)) (hf : env.frame = some L) (t0 : Trc s.heap e cls dd T0)
  (hQ : ∀ h' T, Lft (frs (env :: outer)) [e, T0] s.heap h' → Trc h' e cls dd T → s.heap.get? T = none → Q () { s with heap := h' }) : wpAny M A (leaving env (.ref e)) Q E s := by
 unfold leaving
 exact wpAny_bind (note_next hfr hl hf t0 hQ)
theorem flight_none {T : Addr} {cls : Value} {dd : Option Addr} (t0 : Trc s.heap e cls dd T) (hQ : ∀ h', (∀ b o, b ≠ T → s.heap.get? b = some o → h'.get? b = some o) → (∃ o, h'.get? T = some o) → Trc h' e cls dd T → Q () { s with heap := h' }) :
  wpAny M A (setFlight (.ref e) none) Q E s := by
 obtain ⟨oe, vs, oT, ts, t1, t2, t3, t4, t5, t6, t7, t8, t9⟩ := id t0
 have h3 : 3 < ts.size := (Array.getElem?_eq_some_iff.mp t9).1
 unfold setFlight
 refine wpAny_bind (wpAny_field t1 t4 t5 ?_)
 rw [if_pos (by simp)]
 have hs := Heap.get?_update_self (Obj.mapFields (·.setIfInBounds 3 ((none : Option Addr).elim Value.none fun f => rawInt f))) t7 (Obj.isFreed_of_fields (Obj.data_mapFields t8 _))
 refine wpAny_setField t7 t8 h3 (hQ _ (fun b o hb q => (Heap.get?_update_other _ _ hb.symm).trans q) ⟨_, hs⟩ ⟨oe, vs, _, _, (Heap.get?_update_other _ _ t6).trans t1, t2, t3, t4, t5, t6, hs, Obj.data_mapFields t8 _, by simp [h3]⟩)
end
def CX1 (P : Program) (w : World) : CXT := fun outer H s E e s' => ∃ (a : Addr) (cls : Value) (dd : Option Addr) (T : Addr) (H' : Hp), e = .ref a ∧ s'.os = s.os ∧ AllBare s'.gens ∧ Un (frs outer) [] H H' s.heap s'.heap ∧ HOk P w H' s'.heap ∧
 Trc s'.heap a cls dd T ∧ s.heap.get? a = none ∧ s.heap.get? T = none ∧ H' a = none ∧ H' T = none ∧ E cls dd H'
section
variable {P : Program} {w : World} {H : Hp} {h h' : Heap} {fs xs : List Addr}
theorem ObjOk.here {a : Addr} {o : HO} (x : ObjOk P w H h a o) : ∃ u, h.get? a = some u := by
 induction o with
 | lst xs => obtain ⟨_, _, _, _, e⟩ := x; exact ⟨_, e⟩
 | tup xs => obtain ⟨_, _, _, _, e, _⟩ := x; exact ⟨_, e⟩
 | dK kvs => obtain ⟨_, _, _, _, _, _, _, e, _⟩ := x; exact ⟨_, e⟩
 | dT kvs => obtain ⟨_, _, _, _, _, _, _, e, _⟩ := x; exact ⟨_, e⟩
 | set S n => obtain ⟨_, _, _, _, e, _⟩ := x; exact ⟨_, e⟩
 | ins C dx fs => obtain ⟨_, _, _, e, _⟩ := x; exact ⟨_, e⟩
 | own y => exact x
 | xd fs => obtain ⟨_, ⟨_, _, _, e, _⟩, _⟩ := x; exact ⟨_, e⟩
 | rng lo hi => obtain ⟨_, _, _, e⟩ := x; exact ⟨_, e⟩
 | frz ob u ih => exact ⟨_, x.1⟩
 | tbl ps => exact ⟨_, x⟩
 | met f y => exact ⟨_, x⟩
 | ext φ => exact x.2.1
theorem HOk.lft (x : HOk P w H h) (l : Lft fs xs h h') (hf : ∀ b ∈ fs, H b = none) (hx : ∀ b ∈ xs, H b = none) : HOk P w H h' := fun a o e =>
 (x a o e).stay (fun b u hb q => by
  have hn : ∃ o, H b = some o := by
   rcases hb with rfl | hb
   ·exact ⟨_, e⟩
   ·exact ⟨_, hb⟩
  obtain ⟨o', ho'⟩ := hn
  refine l.keep b u q (fun z => ?_) (fun z => ?_)
  ·rw [hf b z] at ho'; cases ho'
  ·rw [hx b z] at ho'; cases ho') (fun _ q => q) fun _ _ q => q
end
section
variable {P : Program} {w : World} {K : PySem.W.Frag} {mg : Str → Option Value} {base : Heap} {N : List Str} {qual : Str} {scope : Scope} {f : Addr} {cd : Value} {A : Around} {outer : List Env} {s0 : Shared} {H0 : Hp} {E : XK}
theorem un_lft {X : Cx} {pins : List (Addr × Obj)} {σ : St} {H H1 : Hp} {s : Shared} {h1 h2 : Heap} {xs : List Addr} (I : Inv X pins σ H s) (hex : X.ex = []) (hst : X.stack = X.env :: X.outer ∧ X.env.frame = some X.env.locals)
  (u : Un (frs X.stack) [] H H1 s.heap h1) (l : Lft (frs X.stack) xs h1 h2) (hx : ∀ b ∈ xs, X.s₀.heap.get? b = none) : Un (frs X.outer) [] X.H₀ H1 X.s₀.heap h2 := by
 have b0 := I.base
 rw [hex] at b0
 have nL : ∀ b o, X.s₀.heap.get? b = some o → b ≠ X.env.locals := fun b o e z => by
  have q := Heap.lt_size e
  rw [z] at q
  exact absurd q (Nat.not_lt.mpr I.ok.above)
 have nx : ∀ b o, X.s₀.heap.get? b = some o → b ∉ xs := fun b o e z => by rw [hx b z] at e; cases e
 have fs : frs X.stack = X.env.locals :: frs X.outer := by
  rw [hst.1]
  unfold frs
  rw [List.filterMap_cons, hst.2]
 have mem : ∀ b o, X.s₀.heap.get? b = some o → (b ∈ frs X.stack ↔ b ∈ frs X.outer) := fun b o e => by
  rw [fs, List.mem_cons]
  exact ⟨fun z => z.elim (fun y => absurd y (nL b o e)) id, .inr⟩
 have fdat : ∀ b ∈ frs X.outer, ∀ o, X.s₀.heap.get? b = some o → ∀ vs, o.data ≠ .fields vs := fun b hb o e => by
  obtain ⟨_, o', ho', hd'⟩ := I.ok.funs.mem hb
  rw [e] at ho'
  cases ho'
  exact hd'
 refine ⟨fun b o e n h1' _ => ?_, fun b o e n h1' _ => ?_, fun b o e n _ => ?_, fun b o e _ => ?_, fun b ys e => u.tups b ys (b0.tups b ys e), fun b o v e => u.frzs b o v (b0.frzs b o v e), fun b ps e => ?_⟩
 ·have e1 := b0.keep b o e n h1' (by simp)
  have n1 := b0.free b o e n (by simp)
  have hns : b ∉ frs X.stack := fun z => h1' ((mem b o e).mp z)
  exact l.keep b o (u.keep b o e1 n1 hns (by simp)) hns (nx b o e)
 ·obtain ⟨sl, e1⟩ := b0.slot b o e n h1' (by simp)
  have n1 := b0.free b o e n (by simp)
  have hs : b ∈ frs X.stack := (mem b o e).mpr h1'
  obtain ⟨sl2, e2⟩ := u.slot b _ e1 n1 hs (by simp)
  obtain ⟨sl3, e3⟩ := l.slot b _ e2 hs (fdat b h1' o e)
  exact ⟨sl3, e3⟩
 ·have n1 := b0.free b o e n (by simp)
  obtain ⟨o1, e1⟩ := b0.there b o e (by simp)
  exact u.free b o1 e1 n1 (by simp)
 ·obtain ⟨o1, e1⟩ := b0.there b o e (by simp)
  obtain ⟨o2, e2⟩ := u.there b o1 e1 (by simp)
  by_cases hs : b ∈ frs X.stack
  ·have ho : b ∈ frs X.outer := (mem b o e).mp hs
   have n0 := I.ok.frf b ho
   obtain ⟨sl, q1⟩ := b0.slot b o e n0 ho (by simp)
   have n1 := b0.free b o e n0 (by simp)
   obtain ⟨sl2, q2⟩ := u.slot b _ q1 n1 hs (by simp)
   obtain ⟨sl3, q3⟩ := l.slot b _ q2 hs (fdat b ho o e)
   exact ⟨_, q3⟩
  ·exact ⟨o2, l.keep b o2 e2 hs (nx b o e)⟩
 ·obtain ⟨m1, q1⟩ := b0.tbls b ps e
  obtain ⟨m2, q2⟩ := u.tbls b _ q1
  exact ⟨m1 ++ m2, by rw [q2, Array.append_assoc]⟩
theorem Un.id {fs : List Addr} {H : Hp} {h h' : Heap} (k : ∀ b o, h.get? b = some o → h'.get? b = some o) : Un fs [] H H h h' :=
 ⟨fun b o e _ _ _ => k b o e, fun b o e _ _ _ => ⟨o.slots, k b o e⟩, fun _ _ _ n _ => n, fun b o e _ => ⟨o, k b o e⟩, fun _ _ q => q, fun _ _ _ q => q, fun b ps q => ⟨#[], by rw [Array.append_empty]; exact q⟩⟩
theorem pass1 : Passes (CX1 P w) (cxOf (CX1 P w) P w K mg base N qual scope f cd A outer s0 H0 E) E := by
 rintro pins σ H s e s' I ⟨a, cls, dd, T, H', rfl, os, bare, un, hok, t, na, nT, ha, hT, q⟩
 have I1 : Inv _ pins σ H' s' := I.call' os un hok bare (fun b z => absurd z (by simp))
 have hsz : s0.heap.objs.size ≤ s.heap.objs.size := I.sz
 have old : ∀ {z : Addr}, s.heap.get? z = none → s0.heap.get? z = none := fun {z} hz => by
  cases q : s0.heap.get? z with
  | none => rfl
  | some o =>
   obtain ⟨o', e'⟩ := I.base.there z o q (show z ∉ ([] : List Addr) by simp)
   rw [hz] at e'
   cases e'
 show wpAny _ _ (leaving _ (.ref a)) _ _ _
 refine leave_next I1.ok.frames I1.stack rfl t fun h2 T2 l t2 hT2 => ?_
 have l' : Lft (frs (cxOf (CX1 P w) P w K mg base N qual scope f cd A outer s0 H0 E).stack) [a, T] s'.heap h2 := l
 have hx : ∀ b ∈ [a, T], s0.heap.get? b = none := by
  intro b hb
  simp only [List.mem_cons, List.not_mem_nil, or_false] at hb
  rcases hb with rfl | rfl
  ·exact old na
  ·exact old nT
 have hx' : ∀ b ∈ [a, T], H' b = none := by
  intro b hb
  simp only [List.mem_cons, List.not_mem_nil, or_false] at hb
  rcases hb with rfl | rfl
  ·exact ha
  ·exact hT
 have nT1 : s.heap.get? T2 = none := by
  cases z : s.heap.get? T2 with
  | none => rfl
  | some o =>
   obtain ⟨o2, e2⟩ := un.there T2 o z (by simp)
   rw [hT2] at e2
   cases e2
 have hT2' : H' T2 = none := by
  cases z : H' T2 with
  | none => rfl
  | some o =>
   obtain ⟨o', e'⟩ := (hok T2 o z).here
   rw [hT2] at e'
   cases e'
 refine ⟨a, cls, dd, T2, H', rfl, os.trans I.os, bare, ?_, hok.lft l' I1.stkFree hx', t2, old na, old nT1, ha, hT2', q⟩
 exact un_lft I rfl ⟨rfl, rfl⟩ un l' hx
end
theorem HOk.none {P : Program} {w : World} {H : Hp} {h : Heap} (x : HOk P w H h) {z : Addr} (n : h.get? z = Option.none) : H z = Option.none := by
 cases q : H z with
 | none => rfl
 | some o =>
  obtain ⟨u, e⟩ := (x z o q).here
  rw [n] at e
  cases e
theorem Inv.old {X : Cx} {pins : List (Addr × Obj)} {σ : St} {H : Hp} {s : Shared} (I : Inv X pins σ H s) (hex : X.ex = []) {z : Addr} (n : s.heap.get? z = none) : X.s₀.heap.get? z = none := by
 cases q : X.s₀.heap.get? z with
 | none => rfl
 | some o =>
  obtain ⟨u, e⟩ := I.base.there z o q (by rw [hex]; simp)
  rw [n] at e
  cases e
abbrev VB : List Value := [.type "ValueError", .type "Exception", .type "BaseException", .type "object"]
section
variable {P : Program} {w : World} {K : PySem.W.Frag} {mg : Str → Option Value} {base : Heap} {N : List Str} {qual : Str} {scope : Scope} {f : Addr} {cd : Value} {A : Around} {outer : List Env} {s0 : Shared} {H0 : Hp} {E : XK}
end
end L2
set_option Elab.async false
set_option linter.all false
set_option maxRecDepth 100000
set_option maxHeartbeats 4000000
namespace L2
open PySem PySem.Spec PyProof.Rows PySem.W
section
variable {prog : Program} {w : World} {A : Around} {E : Value → Shared → Prop} {s : Shared} {K : PySem.W.Frag} {x D : Addr} {ox : Obj}
structure XIs (K : PySem.W.Frag) (D : Addr) : Prop where
 cl : (clsIn K D).isSome = true
 ga : findIn K (.ref D) "__getattribute__" = some (some (.builtin "BaseException.__getattribute__"))
 gt : findIn K (.ref D) "__getattr__" = some none
 ha : findIn K (.ref D) "__class__" = some (some (.builtin "object.__class__"))
 hn : specialIn K (.builtin "object.__class__") "__get__" = some (some (.builtin "getset_descriptor.__get__"))
 tk : takesIn K (.builtin "object.__class__") = some true
 hm : mroIn K D (.type "object") = some true
 hb : mroIn K D (.type "BaseException") = some true
end
end L2
set_option Elab.async false
set_option linter.all false
set_option maxRecDepth 100000
set_option maxHeartbeats 4000000
namespace L2
open PySem PySem.Spec PyProof.Rows
structure Away (X : Cx) (pins : List (Addr × Obj)) (H : Hp) (b : Addr) : Prop where
 n : H b = none
 z : X.s₀.heap.get? b = none
 l : b ≠ X.env.locals
 c : ∀ x c, X.env.cells.lookup x = some c → c ≠ b
 p : ∀ p ∈ X.pn ++ pins, p.1 ≠ b
section
variable {X : Cx} {pins : List (Addr × Obj)} {σ : St} {H : Hp} {s : Shared} {h2 : Heap} {xs : List Addr}
theorem Inv.away (I : Inv X pins σ H s) (hex : X.ex = []) {b : Addr} (h : s.heap.get? b = none) : Away X pins H b where
 n := I.hok.none h
 z := I.old hex h
 l := fun e => by
  obtain ⟨m, ⟨o, _, _, ho, _⟩, _⟩ := I.loc
  rw [e, ho] at h
  cases h
 c := fun x c e z => by
  obtain ⟨v, o, ho, _⟩ := I.cell x c e
  rw [z, h] at ho
  cases ho
 p := fun p hp z => by
  have q := (I.pin p hp).1
  rw [z, h] at q
  cases q
theorem Inv.lft (I : Inv X pins σ H s) (hex : X.ex = []) (hst : X.stack = X.env :: X.outer ∧ X.env.frame = some X.env.locals) (l : Lft (frs X.stack) xs s.heap h2) (hx : ∀ b ∈ xs, Away X pins H b) :
  Inv X pins σ H { s with heap := h2 } := by
 have fsm : ∀ b, b ∈ frs X.stack ↔ b = X.env.locals ∨ b ∈ frs X.outer := fun b => by
  rw [hst.1]
  unfold frs
  rw [List.filterMap_cons, hst.2]
  exact List.mem_cons
 have un := un_lft I hex hst (Un.id (H := H) (fs := frs X.stack) fun b o e => e) l fun b hb => (hx b hb).z
 obtain ⟨m, hn, hl⟩ := I.loc
 obtain ⟨oL, es, ep, ho, hd, hr⟩ := id hn
 have nL : X.env.locals ∉ xs := fun z => (hx _ z).l rfl
 obtain ⟨sl, hL⟩ := l.slot _ oL ho ((fsm _).mpr (.inl rfl)) fun vs q => by rw [hd] at q; cases q
 have cell : ∀ x c v, X.env.cells.lookup x = some c → s.heap.IsCell c v → h2.IsCell c v := fun x c v e ⟨o, q, d⟩ => by
  have nc : c ∉ xs := fun z => (hx c z).c x c e rfl
  by_cases hf : c ∈ frs X.stack
  ·obtain ⟨sl, z⟩ := l.slot c o q hf fun vs y => by rw [d] at y; cases y
   exact ⟨_, z, d⟩
  ·exact ⟨o, l.keep c o q hf nc, d⟩
 refine ⟨I.ok, I.os, I.bare, by rw [hex]; exact un, ⟨m, ⟨_, es, ep, hL, hd, hr⟩, fun i x v e1 e2 e3 => ?_⟩, fun x c e => ?_, I.free, I.freeC, fun p hp => ?_, I.hok.lft l I.stkFree fun b hb => (hx b hb).n, I.len⟩
 ·obtain ⟨u, r, k⟩ := hl i x v e1 e2 e3
  refine ⟨u, r, k.imp id fun ⟨k, c, e, z⟩ => ⟨k, c, e, cell x c _ e z⟩⟩
 ·obtain ⟨v, z⟩ := I.cell x c e
  exact ⟨v, cell x c v e z⟩
 ·obtain ⟨e, n, ne, nf, d⟩ := I.pin p hp
  exact ⟨l.keep _ _ e (fun z => ((fsm _).mp z).elim ne nf) fun z => (hx _ z).p p hp rfl, n, ne, nf, d⟩
theorem Inv.track (I : Inv X pins σ H s) (hex : X.ex = []) {a : Addr} {o : HO} (aw : Away X pins H a) (ok : ObjOk X.prog X.w (upd H a o) s.heap a o) : Inv X pins σ (upd H a o) s := by
 have ne : ∀ {b : Addr} {u : HO}, H b = some u → b ≠ a := fun h => ne_of_none h aw.n
 refine ⟨I.ok, I.os, I.bare, ⟨I.base.keep, I.base.slot, fun b u e n hx => ?_, I.base.there, fun b ys e => ?_, fun b u v e => ?_, fun b ps e => ?_⟩, I.loc, I.cell, ?_, fun x c e => ?_, fun p hp => ?_, fun b u e => ?_, I.len⟩
 ·rw [upd_ne (fun z => by rw [z, aw.z] at e; cases e)]
  exact I.base.free b u e n hx
 ·have q := I.base.tups b ys e
  rw [upd_ne (ne q)]
  exact q
 ·have q := I.base.frzs b u v e
  rw [upd_ne (ne q)]
  exact q
 ·obtain ⟨m, q⟩ := I.base.tbls b ps e
  exact ⟨m, by rw [upd_ne (ne q)]; exact q⟩
 ·rw [upd_ne aw.l.symm]
  exact I.free
 ·rw [upd_ne (aw.c x c e)]
  exact I.freeC x c e
 ·obtain ⟨e, n, r⟩ := I.pin p hp
  exact ⟨e, by rw [upd_ne (aw.p p hp)]; exact n, r⟩
 ·by_cases hb : b = a
  ·subst hb
   rw [upd_same] at e
   cases e
   exact ok
  ·rw [upd_ne hb] at e
   refine (I.hok b u e).stay (fun _ _ _ q => q) (fun c q => ?_) fun c ys q => ?_
   ·rw [upd_ne (ne q)]; exact q
   ·rw [upd_ne (ne q)]; exact q
theorem Inv.goes {M : Model} {A : Around} {E : Value → Shared → Prop} {i : Nat} {n : Str} {pos : Pos} {Q : Unit → Shared → Prop} (I : Inv X pins σ H s) (hN : X.N.Nodup) (hi : X.N[i]? = some n) (hk : X.env.scope.names.lookup n = some .local)
  (hQ : ∀ s', Inv X pins (σ.set i none) H s' → Q () s') : wpAny M A (do bindName X.env n .none; unbindBehindTheSuite X.env n pos) Q E s := by
 have hiσ : i < σ.length := by rw [I.len]; exact (List.getElem?_eq_some_iff.mp hi).1
 refine wpAny_bind (wpAny_bindName (store_ok I hN hi (.inl hk) (v := .non) (u := .none) rfl (fun s1 I1 => ?_) (.inr hk)))
 unfold unbindBehindTheSuite
 refine wpAny_onRaise ?_
 obtain ⟨m, hn, hl⟩ := I1.loc
 have hs : (σ.set i (some V.non))[i]? = some (some V.non) := List.getElem?_set_self hiσ
 obtain ⟨u, r, k⟩ := hl i n .non hi hs (.inl hk)
 have hu : m n = some u := by
  rcases k with k | ⟨k, _⟩
  ·exact k.2
  ·have k' : X.env.scope.names.lookup n = some .cell ∨ X.env.scope.names.lookup n = some .free := k
   rw [hk] at k'
   rcases k' with z | z <;> cases z
 refine wpAny_unbindName_local hk hn hu (by rw [I.ok.kind]; rfl) fun h' u' hn' sb => hQ _ ?_
 obtain ⟨oL, _, _, hoL, _⟩ := id hn
 have cne := I1.cne
 refine ⟨I1.ok, I1.os, I1.bare, ⟨fun b o e n hb hx => ?_, fun b o e n hb hx => ?_, I1.base.free, fun b o e hx => ?_, I1.base.tups, I1.base.frzs, I1.base.tbls⟩, ⟨_, hn', fun j y v' e1 e2 e3 => ?_⟩, fun y c e => ?_, I1.free, I1.freeC, fun p hp => ?_, fun b ob e => ?_, by rw [List.length_set, I.len]⟩
 ·exact (sb.2 b (Nat.ne_of_lt (Nat.lt_of_lt_of_le (Heap.lt_size e) I.ok.above))).trans (I1.base.keep b o e n hb hx)
 ·obtain ⟨sl, e1⟩ := I1.base.slot b o e n hb hx
  exact ⟨sl, (sb.2 b (Nat.ne_of_lt (Nat.lt_of_lt_of_le (Heap.lt_size e) I.ok.above))).trans e1⟩
 ·obtain ⟨o', e1⟩ := I1.base.there b o e hx
  exact ⟨o', (sb.2 b (Nat.ne_of_lt (Nat.lt_of_lt_of_le (Heap.lt_size e) I.ok.above))).trans e1⟩
 ·by_cases hj : j = i
  ·subst hj
   rw [List.getElem?_set_self hiσ] at e2
   cases e2
  ·rw [List.getElem?_set_ne (Ne.symm hj)] at e2
   have e2' : (σ.set i (some V.non))[j]? = some (some v') := by rw [List.getElem?_set_ne (Ne.symm hj)]; exact e2
   obtain ⟨w', r', q⟩ := hl j y v' e1 e2' e3
   refine ⟨w', r', ?_⟩
   rcases q with ⟨k, e⟩ | ⟨k, c, e, z⟩
   ·refine .inl ⟨k, ?_⟩
    have : y ≠ n := fun e => hj (nodup_ix hN e1 (e ▸ hi))
    simp [this, e]
   ·exact .inr ⟨k, c, e, z.sameBut sb (cne y c e)⟩
 ·obtain ⟨w', z⟩ := I1.cell y c e
  exact ⟨w', z.sameBut sb (cne y c e)⟩
 ·obtain ⟨e, n, ne, nf, d⟩ := I1.pin p hp
  exact ⟨(sb.2 p.1 ne).trans e, n, ne, nf, d⟩
 ·refine (I1.hok b ob e).stay (fun c w' hc q => (sb.2 c ?_).trans q) (fun _ q => q) fun _ _ q => q
  rintro rfl
  rcases hc with rfl | hc
  ·rw [I1.free] at e; cases e
  ·rw [I1.free] at hc; cases hc
end
abbrev Cx.held (X : Cx) (pins : List (Addr × Obj)) : Cx := { X with pn := X.pn ++ pins }
abbrev Cx.marked (X : Cx) (v : Value) : Cx := { X with A := X.A.mark (some v), calm := false, xe := fun _ _ => False }
def XW (X : Cx) (ex : St → XK) (e : Value) (s : Shared) : Prop := ∃ (pins : List (Addr × Obj)) (σ : St) (a : Addr) (cls : Value) (dd : Option Addr) (T : Addr) (H : Hp), e = .ref a ∧ Inv X pins σ H s ∧ Trc s.heap a cls dd T ∧ Away X pins H a ∧ Away X pins H T ∧ ex σ cls dd H
section
variable {X : Cx} {pins pins' : List (Addr × Obj)} {σ : St} {H : Hp} {s : Shared}
theorem Inv.held (I : Inv X pins σ H s) : Inv (X.held pins) [] σ H s :=
 ⟨⟨I.ok.mod, I.ok.kind, I.ok.glob, I.ok.blt, I.ok.above, I.ok.inj, I.ok.has, I.ok.cab, I.ok.hd, I.ok.frames, I.ok.stk, I.ok.exf, I.ok.bs, I.ok.bsz, I.ok.noex, I.ok.exfs, I.ok.funs, I.ok.frf⟩, I.os, I.bare, I.base, I.loc, I.cell, I.free, I.freeC,
  fun p hp => I.pin p (by rwa [List.append_nil] at hp), I.hok, I.len⟩
theorem Inv.unheld (I : Inv (X.held pins) pins' σ H s) : Inv X pins σ H s :=
 ⟨⟨I.ok.mod, I.ok.kind, I.ok.glob, I.ok.blt, I.ok.above, I.ok.inj, I.ok.has, I.ok.cab, I.ok.hd, I.ok.frames, I.ok.stk, I.ok.exf, I.ok.bs, I.ok.bsz, I.ok.noex, I.ok.exfs, I.ok.funs, I.ok.frf⟩, I.os, I.bare, I.base, I.loc, I.cell, I.free, I.freeC,
  fun p hp => I.pin p (List.mem_append_left _ hp), I.hok, I.len⟩
theorem Inv.marked {v : Value} (I : Inv X pins σ H s) : Inv (X.marked v) pins σ H s :=
 ⟨⟨I.ok.mod, I.ok.kind, I.ok.glob, I.ok.blt, I.ok.above, I.ok.inj, I.ok.has, I.ok.cab, (fun z => Bool.noConfusion z), I.ok.frames, I.ok.stk, I.ok.exf, I.ok.bs, I.ok.bsz, I.ok.noex, I.ok.exfs, I.ok.funs, I.ok.frf⟩, I.os, I.bare, I.base, I.loc, I.cell, I.free, I.freeC, I.pin, I.hok, I.len⟩
theorem Inv.unmarked {v : Value} (hc : X.calm = true) (hh : X.A.handled = none) (I : Inv (X.marked v) pins σ H s) : Inv X pins σ H s :=
 ⟨⟨I.ok.mod, I.ok.kind, I.ok.glob, I.ok.blt, I.ok.above, I.ok.inj, I.ok.has, I.ok.cab, fun _ => hh, I.ok.frames, I.ok.stk, I.ok.exf, I.ok.bs, I.ok.bsz, I.ok.noex, I.ok.exfs, I.ok.funs, I.ok.frf⟩, I.os, I.bare, I.base, I.loc, I.cell, I.free, I.freeC, I.pin, I.hok, I.len⟩
end
section
variable {X : Cx} {ex : St → XK} {C : Addr} {m qual : Str} {st : Stmt} {ps : List Str} {k : Nat} {sp : Sp} {o e : Expr} {es : List Expr} {ta : TE} {t : TA} {apos pos : Pos}
theorem run_x {f : Addr} {fd : FuncData} {pins : List (Addr × Obj)} {σ : St} {H : Hp} {s : Shared} {Q : VK} {us : List Value} {vs : List V} (hex : X.ex = []) (F : FnOk X.prog X.w X.K X.mg X.base (CX1 X.prog X.w) k f fd ps sp) (hr : Room k X.A) (hb : Binds X.K fd ps [])
  (I : Inv (X.wish (XW X ex)) pins σ H s) (r : Vals vs us) (h : sp (vs ++ []) H Q (ex σ)) : wpAny (model X.prog X.w) X.A (call (.ref f) us) (EP (X.wish (XW X ex)) pins σ Q) (XW X ex) s := by
 have r2 : Vals (vs ++ []) (us ++ []) := r.append .nil
 have hl : (us ++ []).length = ps.length := by rw [← r2.length]; exact F.len _ _ _ _ h
 refine wpAny_call (codeAny_mono (F.run X.A X.stack s H ⟨us, []⟩ (us ++ []) (vs ++ []) Q (ex σ) hr I.env0 (hb s us I.kIn hl) r2 h) fun r s' hq => ?_)
 cases r with
 | error e =>
  obtain ⟨a, cls, dd, T, H', rfl, os, bare, un, hok, t, na, nT, ha, hT, q⟩ := hq
  have I0 := I.unwish
  have I1 : Inv X pins σ H' s' := I0.call' os un hok bare (fun b z => absurd z (by simp))
  have A1 := I0.away hex na
  have A2 := I0.away hex nT
  exact ⟨pins, σ, a, cls, dd, T, H', rfl, I1, t, ⟨ha, A1.z, A1.l, A1.c, A1.p⟩, ⟨hT, A2.z, A2.l, A2.c, A2.p⟩, q⟩
 | ok fl =>
  cases fl with
  | ret u => exact I.after hq
  | next => exact False.elim hq
  | brk => exact False.elim hq
  | cont => exact False.elim hq
end
section
variable {X : Cx} {K : PySem.W.Frag}
end
section
variable {P : Program} {w : World} {K : PySem.W.Frag} {mg : Str → Option Value} {base : Heap}
theorem Fun.ok1 {x qual : Str} {st : Stmt} {f : Addr} {fd : FuncData} {N ps : List Str} {k : Nat} {sp : Sp} (F : Fun K x qual st f fd) (S : FnScope N ps (defScope st)) (len : ∀ vs H Q E, sp vs H Q E → vs.length = ps.length)
  (body : ∀ (cdv : Value) (A : Around) (outer : List Env) (s : Shared) (H : Hp) (vs : List V) (Q : VK) (E : XK), Room k (A.deeper (envOfC qual (defScope st) s.heap.objs.size f cdv)) → sp vs H Q E →
   ∃ t, PSs (cxOf (CX1 P w) P w K mg base N qual (defScope st) f cdv A outer s H E) (defBody st) t ∧ t { nx := fun _ H' => Q .non H', rt := Q } (start N vs) H) : FnOk P w K mg base (CX1 P w) (k + 1) f fd ps sp := by
 obtain ⟨oc, od, kV, doc, pm, an, cdv, ct, osl, e1, lk, hcd⟩ := F.ex
 subst e1
 exact fn_of lk hcd S len fun A outer s H vs Q E hr hsp => body cdv A outer s H vs Q E hr hsp
end
section
variable {P : Program} {w : World} {K : PySem.W.Frag} {mg : Str → Option Value} {base : Heap} {N : List Str} {qual q2 : Str} {scope : Scope} {f : Addr} {cd : Value} {A : Around} {outer : List Env} {s0 : Shared} {H0 : Hp} {E : XK}
 {C : Addr} {m : Str} {st : Stmt} {ps : List Str} {k : Nat} {sp : Sp} {o e : Expr} {es : List Expr} {ta : TE} {t : TA} {apos pos : Pos}
end
end L2
set_option Elab.async false
set_option linter.all false
set_option maxRecDepth 100000
set_option maxHeartbeats 4000000
namespace L2
open PySem PySem.Spec PyProof.Rows
def txOf : Value → Option Str
 | .str x _ => some x
 | _ => none
theorem txOf_some {v : Value} {x : Str} (h : txOf v = some x) : ∃ t, v = .str x t := by
 cases v <;> simp [txOf] at h
 subst h
 exact ⟨_, rfl⟩
section
variable {X : Cx} {a : Addr} {ks : List Str}
variable {w : World} {K : PySem.W.Frag}
end
end L2
set_option Elab.async false
set_option linter.all false
set_option maxRecDepth 100000
set_option maxHeartbeats 4000000
namespace L2
open PySem PySem.Spec PyProof.Rows
end L2
set_option Elab.async false
set_option linter.all false
set_option maxRecDepth 100000
set_option maxHeartbeats 4000000
namespace L2
open PySem PySem.Spec PyProof.Rows
section
variable {P : Program} {w : World} {κ : Type} [DecidableEq κ] {knd : PySem.KeyKind P w κ} {A : Around} {E : Value → Shared → Prop} {s : Shared}
end
end L2
set_option Elab.async false
set_option linter.all false
set_option maxRecDepth 100000
set_option maxHeartbeats 4000000
namespace L2
open PySem PySem.Spec PyProof.Rows
section
variable {P : Program} {w : World} {κ : Type} [DecidableEq κ] {knd : PySem.KeyKind P w κ} {A : Around} {E : Value → Shared → Prop} {s : Shared}
end
end L2
set_option Elab.async false
set_option linter.all false
set_option maxRecDepth 100000
set_option maxHeartbeats 4000000
namespace L2
open PySem PySem.Spec PyProof.Rows
section
variable {P : Program} {w : World} {κ : Type} [DecidableEq κ] {knd : PySem.KeyKind P w κ} {A : Around} {E : Value → Shared → Prop} {s : Shared}
end
end L2
set_option Elab.async false
set_option linter.all false
set_option maxRecDepth 100000
set_option maxHeartbeats 4000000
namespace L2
open PySem PySem.Spec PyProof.Rows
section
variable {P : Program} {w : World} {A : Around} {E : Value → Shared → Prop} {s : Shared}
end
end L2
set_option Elab.async false
set_option linter.all false
set_option maxRecDepth 100000
set_option maxHeartbeats 4000000
namespace L2
open PySem PySem.Spec PyProof.Rows
abbrev set0 (led : Bool) : Obj := { cls := .type "set", dict := none, data := .set #[] 0 (.fresh 0 0 led) }
section
variable {P : Program} {w : World} {A : Around} {E : Value → Shared → Prop} {s : Shared}
end
end L2
set_option Elab.async false
set_option linter.all false
set_option maxRecDepth 100000
set_option maxHeartbeats 4000000
namespace L2
open PySem PySem.Spec PyProof.Rows
section
variable {X : Cx}
end
end L2
set_option Elab.async false
set_option linter.all false
set_option maxRecDepth 100000
set_option maxHeartbeats 4000000
namespace L2
open PySem PySem.Spec PyProof.Rows
section
variable {X : Cx}
end
end L2
set_option Elab.async false
set_option linter.all false
set_option maxRecDepth 100000
set_option maxHeartbeats 4000000
namespace L2
open PySem PySem.Spec PyProof.Rows
section
variable {P : Program} {w : World} {A : Around} {E : Value → Shared → Prop} {s : Shared} {a : Addr} {o : Obj} {xs : Array Value} {n : Nat}
end
end L2
set_option Elab.async false
set_option linter.all false
set_option maxRecDepth 100000
set_option maxHeartbeats 4000000
namespace L2
open PySem PySem.Spec PyProof.Rows
theorem ent_dict_loop : entryFor table "dict.update.loop" = some Builtin.«dict.update.loop» := entryFor_of_tree (by kernel_rfl)
theorem pln_dict_loop : plainId "dict.update.loop" = true := by decide +kernel
section
variable {P : Program} {w : World} {A : Around} {E : Value → Shared → Prop} {s : Shared} {κ : Type} [DecidableEq κ] {knd : PySem.KeyKind P w κ}
def PairAt (knd : PySem.KeyKind P w κ) (h : Heap) (a : Addr) (kx : κ × Value) : Prop := ∃ o key n, h.get? a = some o ∧ o.cls = .type "tuple" ∧ o.data = .seq #[key, kx.2] n ∧ knd.is kx.1 key = true
theorem loop_dict {R : Result → Shared → Prop} {I d : Addr} {fp : List Addr} {St : Nat → Heap → Prop} {qs : List Addr} {kvs : List (κ × Value)} (W : Walks P w A.in1 I fp [I] qs.length (fun i v => (qs[i]?).map Value.ref = some v) St) (hd : d ∉ fp) (hdI : d ≠ I)
  (hlen : kvs.length = qs.length) (few : qs.length ≤ 1000) (nd : (kvs.map (·.1)).Nodup) :
  ∀ (k i : Nat) (tk0 : Tok) (s : Shared), qs.length - i = k → i ≤ qs.length → St i s.heap → s.heap.DictOf knd d (kvs.take i) →
   (∀ (j : Nat) (q : Addr) (kx : κ × Value), qs[j]? = some q → kvs[j]? = some kx → PairAt knd s.heap q kx ∧ q ≠ I ∧ q ≠ d) →
   (∀ h' tk, (∀ b o, b ≠ d → b ≠ I → s.heap.get? b = some o → h'.get? b = some o) → h'.DictOf knd d kvs → R (.ok (.ret .none)) { s with heap := h', toks := tk }) →
   codeAny (model P w) A (.builtin "dict.update.loop" ⟨[.ref d, .ref I, .int i tk0, .none], []⟩) R s := by
 intro k
 induction k with
 | zero =>
  intro i tk0 s hk hi st D prs q
  obtain rfl : i = qs.length := by omega
  refine codeAny_builtin ent_dict_loop ?_; rw [Around.under_plainId pln_dict_loop _]
  refine wpAny_bind (W.done s _ _ st fun h' tk kp => ?_)
  have D' : h'.DictOf knd d kvs := by
   rw [← hlen, List.take_length] at D
   obtain ⟨o, es, ep, ho, r⟩ := D
   exact ⟨o, es, ep, kp _ _ (by simpa using hdI) ho, r⟩
  dsimp only
  unfold Builtin.Dict.addKeywords
  rw [List.forIn_nil]
  refine wpAny_bind (wpAny_bind (wpAny_pure (wpAny_pure ?_)))
  exact wpAny_pure (q h' tk (fun b o _ b2 e => kp b o (by simpa using b2) e) D')
 | succ k ih =>
  intro i tk0 s hk hi st D prs q
  have lt : i < qs.length := by omega
  refine codeAny_builtin ent_dict_loop ?_; rw [Around.under_plainId pln_dict_loop _]
  refine wpAny_bind (W.item i s _ _ lt st fun v h1 tk1 hv st1 kp => ?_)
  have hk0 : i < kvs.length := by omega
  rw [List.getElem?_eq_getElem lt] at hv
  obtain rfl : Value.ref qs[i] = v := by simpa using hv
  have keep1 : ∀ {a : Addr} {kx : κ × Value}, a ≠ I → PairAt knd s.heap a kx → PairAt knd h1 a kx := fun {a kx} ne ⟨o, key, n, ho, r⟩ => ⟨o, key, n, kp _ _ (by simpa using ne) ho, r⟩
  obtain ⟨pr, n1, n2⟩ := prs i qs[i] kvs[i] (List.getElem?_eq_getElem lt) (List.getElem?_eq_getElem hk0)
  obtain ⟨o, key, n, ho, hc, hda, hkey⟩ := keep1 n1 pr
  have D1 : h1.DictOf knd d (kvs.take i) := let ⟨o, es, ep, ho, r⟩ := D; ⟨o, es, ep, kp _ _ (by simpa using hdI) ho, r⟩
  have fresh : stored (kvs.take i) kvs[i].1 kvs[i].2 = kvs.take (i + 1) := by
   unfold stored
   rw [if_neg ?_, List.take_succ_eq_append_getElem hk0]
   intro z
   obtain ⟨x, hx, ex⟩ := List.any_eq_true.mp z
   obtain ⟨j, hj, ej⟩ := List.mem_take_iff_getElem.mp hx
   have e1 : (kvs.map (·.1))[j]'(by simp; omega) = (kvs.map (·.1))[i]'(by simp; omega) := by
    rw [List.getElem_map, List.getElem_map, ej]
    exact of_decide_eq_true ex
   have := (List.getElem_inj (h₀ := by simp; omega) (h₁ := by simp; omega) nd).mp e1
   omega
  refine wpAny_bind (wpAny_holding (wpAny_bind (wpAny_tryCatch ?_)))
  unfold Builtin.Dict.pairItems
  refine wpAny_bind (wpAny_typeOf (T := "tuple") (s := { s with heap := h1, toks := tk1 }) ⟨o, ho, hc⟩ ?_)
  rw [if_pos (by decide)]
  refine wpAny_bind (wpAny_seqItems (s := { s with heap := h1, toks := tk1 }) ho hda (wpAny_pure ?_))
  show wpAny _ _ (holding [key, kvs[i].2] (dictSet d key kvs[i].2)) _ _ _
  refine wpAny_holding (wpAny_dictSet_pairs (s := { s with heap := h1, toks := tk1 }) hkey D1 (fun h2 D2 sb => ?_) (small_line (by rw [List.length_take]; omega)))
  rw [fresh] at D2
  refine wpAny_pure ⟨plainId_quiet pln_dict_loop _, ih (i + 1) _ _ (by omega) lt (W.frame _ h1 h2 st1 fun b hb u e => (sb.2 b fun z => hd (z ▸ hb)).trans e) D2 (fun j q0 kx e1 e2 => ?_) fun h3 tk3 kp3 D3 => ?_⟩
  ·obtain ⟨p1, m1, m2⟩ := prs j q0 kx e1 e2
   obtain ⟨o', key', n', ho', r'⟩ := keep1 m1 p1
   exact ⟨⟨o', key', n', (sb.2 _ m2).trans ho', r'⟩, m1, m2⟩
  ·refine q h3 tk3 (fun b u b1 b2 e => kp3 b u b1 b2 ?_) D3
   exact (sb.2 b b1).trans (kp b u (by simpa using b2) e)
end
end L2
set_option Elab.async false
set_option linter.all false
set_option maxRecDepth 100000
set_option maxHeartbeats 4000000
namespace L2
open PySem PySem.Spec PyProof.Rows
section
variable {X : Cx}
theorem pairs_at {P : Program} {w : World} {H : Hp} {h : Heap} (ok : HOk P w H h) : ∀ {qs : List Addr} {kvs : List (Key × V)}, kvs.length = qs.length →
  (∀ (i : Nat) (q : Addr) (kx : Key × V), qs[i]? = some q → kvs[i]? = some kx → H q = some (.tup [kV kx.1, kx.2])) →
  ∃ vs : List (Key × Value), KV kvs vs ∧ ∀ (i : Nat) (q : Addr) (kx : Key × Value), qs[i]? = some q → vs[i]? = some kx → PairAt (mixKind P w) h q kx
 | [], [], _, _ => ⟨[], .nil, fun i q kx e => by simp at e⟩
 | [], _ :: _, hl, _ => nomatch hl
 | _ :: _, [], hl, _ => nomatch hl
 | q0 :: qs, (k0, v0) :: kvs, hl, t => by
  obtain ⟨vs, r, a⟩ := pairs_at ok (Nat.succ.inj hl) fun i q kx e1 e2 => t (i + 1) q kx e1 e2
  obtain ⟨_, its, rv, o, ho, hc, n, hd⟩ := (show ObjOk P w H h q0 (.tup [kV k0, v0]) from ok _ _ (t 0 q0 (k0, v0) rfl rfl))
  match its, rv with
  | [key, val], .cons rk (.cons rx .nil) =>
   refine ⟨(k0, val) :: vs, .cons ⟨rfl, rx⟩ r, fun i q kx e1 e2 => ?_⟩
   cases i with
   | zero =>
    cases e1
    cases e2
    exact ⟨o, key, n, ho, hc, hd, kV_is rk⟩
   | succ i => exact a i q kx e1 e2
end
end L2
set_option Elab.async false
set_option linter.all false
set_option maxRecDepth 100000
set_option maxHeartbeats 4000000
namespace L2
open PySem PySem.Spec PyProof.Rows
section
variable {X : Cx} {pins : List (Addr × Obj)} {σ : St} {H : Hp} {s : Shared} {h' : Heap}
end
end L2
set_option Elab.async false
set_option linter.all false
set_option maxRecDepth 100000
set_option maxHeartbeats 4000000
namespace L2
open PySem PySem.Spec PyProof.Rows
end L2
set_option Elab.async false
set_option linter.all false
set_option maxRecDepth 100000
set_option maxHeartbeats 4000000
namespace L2
open PySem PySem.Spec PyProof.Rows
end L2
set_option Elab.async false
set_option linter.all false
set_option maxRecDepth 100000
set_option maxHeartbeats 4000000
namespace L2
open PySem PySem.Spec PyProof.Rows
inductive Dp where
 | fl (v : V) | tp (ts : List Dp) | ls (ts : List Dp)
def Tl (K : PySem.W.Frag) (H : Hp) : Nat → Dp → V → Prop
 | 0, _, _ => False
 | _ + 1, .fl v, x => x = v ∧ flatV v = true ∧ eqV v v = true
 | n + 1, .tp ts, x => ∃ a xs, x = .ref a ∧ SqT K H a xs ∧ Paired (Tl K H n) ts xs
 | n + 1, .ls ts, x => ∃ a xs, x = .ref a ∧ SqL K H a xs ∧ Paired (Tl K H n) ts xs
theorem Paired.at {α β : Type} {R : α → β → Prop} : ∀ {as : List α} {bs : List β}, Paired R as bs → ∀ (i : Nat) (h1 : i < as.length) (h2 : i < bs.length), R as[i] bs[i]
 | _, _, .cons r _, 0, _, _ => r
 | _, _, .cons _ t, i + 1, h1, h2 => Paired.at t i (Nat.lt_of_succ_lt_succ h1) (Nat.lt_of_succ_lt_succ h2)
theorem all_true (n : Nat) : (List.range n).all (fun _ => true) = true := by simp
section
variable {X : Cx} {pins : List (Addr × Obj)} {σ : St} {H : Hp} {s : Shared}
theorem items_eq {n : Nat} {A : Around} (I : Inv X pins σ H s) (ih : ∀ (d : Dp) (x y : V) (u v : Value), Tl X.K H n d x → Tl X.K H n d y → RelV x u → RelV y v → SeqAt.EqAt A s u v true) {ts : List Dp} {xs ys : List V} {us vs : List Value}
  (p : Paired (Tl X.K H n) ts xs) (q : Paired (Tl X.K H n) ts ys) (rx : Vals xs us) (ry : Vals ys vs) : us.length = vs.length ∧ ∀ j (h1 : j < us.toArray.size) (h2 : j < vs.toArray.size), SeqAt.EqAt A s us.toArray[j] vs.toArray[j] true := by
 have l1 := Paired.length p
 have l2 := Paired.length q
 have l3 := rx.length
 have l4 := ry.length
 refine ⟨by omega, fun j h1 h2 => ?_⟩
 have j1 : j < us.length := by simpa using h1
 have j2 : j < vs.length := by simpa using h2
 have e := ih ts[j] xs[j] ys[j] us[j] vs[j] (Paired.at p j (by omega) (by omega)) (Paired.at q j (by omega) (by omega)) (Paired.at rx j (by omega) j1) (Paired.at ry j (by omega) j2)
 simpa using e
theorem tells_eq (I : Inv X pins σ H s) : ∀ (n : Nat) (A : Around), A.units + n < cLine → ∀ (d : Dp) (x y : V) (u v : Value), Tl X.K H n d x → Tl X.K H n d y → RelV x u → RelV y v → SeqAt.EqAt A s u v true
 | 0, _, _, _, _, _, _, _, h, _, _, _ => h.elim
 | n + 1, A, hu, .fl w, x, y, u, v, ⟨e1, f1, g⟩, ⟨e2, _, _⟩, rx, ry => by
  subst e1
  subst e2
  have := eqAt_V (A := A) (s := s) rx ry f1 f1
  rw [g] at this
  exact this
 | n + 1, A, hu, .tp ts, x, y, u, v, ⟨a, xs, e1, s1, p1⟩, ⟨b, ys, e2, s2, p2⟩, rx, ry => by
  subst e1
  subst e2
  obtain rfl : u = Value.ref a := rx
  obtain rfl : v = Value.ref b := ry
  by_cases hab : a = b
  ·subst hab
   exact SeqAt.EqAt.same _
  ·obtain ⟨us, r1, q1, _⟩ := I.tuple s1
   obtain ⟨vs, r2, q2, _⟩ := I.tuple s2
   obtain ⟨l, it⟩ := items_eq (A := A.in1) I (tells_eq I n A.in1 (by show A.units + 1 + n < cLine; omega)) p1 p2 r1 r2
   have := SeqAt.RcAt.tuples (A := A) (e := fun _ => true) (show s.heap.IsTuple a us.toArray from q1) (show s.heap.IsTuple b vs.toArray from q2) (by omega) it
   rw [all_true, Bool.true_and, show (us.toArray.size == vs.toArray.size) = true by simp [l]] at this
   exact SeqAt.EqAt.of_refs hab this
 | n + 1, A, hu, .ls ts, x, y, u, v, ⟨a, xs, e1, s1, p1⟩, ⟨b, ys, e2, s2, p2⟩, rx, ry => by
  subst e1
  subst e2
  obtain rfl : u = Value.ref a := rx
  obtain rfl : v = Value.ref b := ry
  by_cases hab : a = b
  ·subst hab
   exact SeqAt.EqAt.same _
  ·obtain ⟨us, r1, q1, _⟩ := I.list s1
   obtain ⟨vs, r2, q2, _⟩ := I.list s2
   obtain ⟨l, it⟩ := items_eq (A := A.in1) I (tells_eq I n A.in1 (by show A.units + 1 + n < cLine; omega)) p1 p2 r1 r2
   have := SeqAt.RcAt.lists (A := A) (e := fun _ => true) q1.isList q2.isList (by simp [l]) (by omega) it
   rw [all_true] at this
   exact SeqAt.EqAt.of_refs hab this
end
section
variable {X : Cx}
def rSame (K : PySem.W.Frag) (n : Nat) (b : Bool) : R2 := fun x y H Q => (∃ ts, (Tl K H (n + 1) (.tp ts) x ∧ Tl K H (n + 1) (.tp ts) y) ∨ (Tl K H (n + 1) (.ls ts) x ∧ Tl K H (n + 1) (.ls ts) y)) ∧ Q (.bl b) H
theorem op_eqD {n : Nat} (hu : X.A.units + n + 1 < cLine) : OpR X (compareOp .Eq) (rSame X.K n true) := by
 intro pins s σ H x y v u Q I rx ry ⟨⟨ts, h⟩, q⟩
 rcases h with ⟨⟨a, xs, rfl, s1, p1⟩, ⟨b, ys, rfl, s2, p2⟩⟩ | ⟨⟨a, xs, rfl, s1, p1⟩, ⟨b, ys, rfl, s2, p2⟩⟩
 ·obtain rfl : v = Value.ref a := rx
  obtain rfl : u = Value.ref b := ry
  obtain ⟨us, r1, q1, _⟩ := I.tuple s1
  obtain ⟨vs, r2, q2, _⟩ := I.tuple s2
  obtain ⟨l, it⟩ := items_eq (A := X.A.in1) I (tells_eq I n X.A.in1 (by show X.A.units + 1 + n < cLine; omega)) p1 p2 r1 r2
  refine SeqAt.eq_tupleAt (e := fun _ => true) (show s.heap.IsTuple a us.toArray from q1) (show s.heap.IsTuple b vs.toArray from q2) (by omega) it ?_
  rw [all_true, Bool.true_and, show (us.toArray.size == vs.toArray.size) = true by simp [l]]
  exact ⟨.bl true, H, I, rfl, q⟩
 ·obtain rfl : v = Value.ref a := rx
  obtain rfl : u = Value.ref b := ry
  obtain ⟨us, r1, q1, _⟩ := I.list s1
  obtain ⟨vs, r2, q2, _⟩ := I.list s2
  obtain ⟨l, it⟩ := items_eq (A := X.A.in1) I (tells_eq I n X.A.in1 (by show X.A.units + 1 + n < cLine; omega)) p1 p2 r1 r2
  refine SeqAt.eq_listAt (e := fun _ => true) q1.isList q2.isList (by simp [l]) (by omega) it ?_
  rw [all_true]
  exact ⟨.bl true, H, I, rfl, q⟩
theorem op_neD {n : Nat} (hu : X.A.units + n + 1 < cLine) : OpR X (compareOp .NotEq) (rSame X.K n false) := by
 intro pins s σ H x y v u Q I rx ry ⟨⟨ts, h⟩, q⟩
 rcases h with ⟨⟨a, xs, rfl, s1, p1⟩, ⟨b, ys, rfl, s2, p2⟩⟩ | ⟨⟨a, xs, rfl, s1, p1⟩, ⟨b, ys, rfl, s2, p2⟩⟩
 ·obtain rfl : v = Value.ref a := rx
  obtain rfl : u = Value.ref b := ry
  obtain ⟨us, r1, q1, _⟩ := I.tuple s1
  obtain ⟨vs, r2, q2, _⟩ := I.tuple s2
  obtain ⟨l, it⟩ := items_eq (A := X.A.in1) I (tells_eq I n X.A.in1 (by show X.A.units + 1 + n < cLine; omega)) p1 p2 r1 r2
  refine SeqAt.RcNeAt.tuples (e := fun _ => true) (show s.heap.IsTuple a us.toArray from q1) (show s.heap.IsTuple b vs.toArray from q2) (by omega) it X.prog X.w _ _ ?_
  rw [all_true, Bool.true_and, show (us.toArray.size == vs.toArray.size) = true by simp [l]]
  exact ⟨.bl false, H, I, rfl, q⟩
 ·obtain rfl : v = Value.ref a := rx
  obtain rfl : u = Value.ref b := ry
  obtain ⟨us, r1, q1, _⟩ := I.list s1
  obtain ⟨vs, r2, q2, _⟩ := I.list s2
  obtain ⟨l, it⟩ := items_eq (A := X.A.in1) I (tells_eq I n X.A.in1 (by show X.A.units + 1 + n < cLine; omega)) p1 p2 r1 r2
  refine SeqAt.RcNeAt.lists (e := fun _ => true) q1.isList q2.isList (by simp [l]) (by omega) it X.prog X.w _ _ ?_
  rw [all_true]
  exact ⟨.bl false, H, I, rfl, q⟩
end
end L2
set_option Elab.async false
set_option linter.all false
set_option maxRecDepth 100000
set_option maxHeartbeats 4000000
namespace L2
open PySem PySem.Spec PyProof.Rows
section
variable {X : Cx} {K : PySem.W.Frag}
theorem bt_set : bootBuiltins "set" = some (.type "set") := by decide +kernel
theorem op_eqDK {n : Nat} (hK : X.K = K) (hu : X.A.units + n + 1 < cLine) : OpR X (compareOp .Eq) (rSame K n true) := hK ▸ op_eqD hu
theorem op_neDK {n : Nat} (hK : X.K = K) (hu : X.A.units + n + 1 < cLine) : OpR X (compareOp .NotEq) (rSame K n false) := hK ▸ op_neD hu
end
section
variable {P : Program} {w : World} {K : PySem.W.Frag} {mg : Str → Option Value} {base : Heap}
end
end L2
set_option Elab.async false
set_option linter.all false
set_option maxRecDepth 100000
set_option maxHeartbeats 4000000
namespace L2
open PySem PySem.Spec PyProof.Rows
section
variable {X : Cx} {pins : List (Addr × Obj)} {σ : St} {H : Hp} {s : Shared}
open Classical in
end
section
variable {X : Cx} {K : PySem.W.Frag}
open Classical in
end
end L2
set_option Elab.async false
set_option linter.all false
set_option maxRecDepth 100000
set_option maxHeartbeats 4000000
namespace L2
open PySem PySem.Spec PyProof.Rows
section
variable {prog : Program} {w : World} {A : Around} {E : Value → Shared → Prop} {s : Shared}
end
section
variable {prog : Program} {w : World} {A : Around} {E : Value → Shared → Prop} {s : Shared}
end
end L2
set_option Elab.async false
set_option linter.all false
set_option maxRecDepth 100000
set_option maxHeartbeats 4000000
namespace L2
open PySem PySem.Spec PyProof.Rows
section
variable {prog : Program} {w : World} {A : Around} {E : Value → Shared → Prop} {s : Shared}
end
section
variable {X : Cx} {pins : List (Addr × Obj)} {σ : St} {H : Hp} {s : Shared} {h' : Heap}
end
end L2
set_option Elab.async false
set_option linter.all false
set_option maxRecDepth 100000
set_option maxHeartbeats 4000000
namespace L2
open PySem PySem.Spec PyProof.Rows
section
variable {prog : Program} {w : World} {A : Around} {E : Value → Shared → Prop} {s : Shared}
end
end L2
set_option Elab.async false
set_option linter.all false
set_option maxRecDepth 100000
set_option maxHeartbeats 4000000
namespace L2
open PySem PySem.Spec PyProof.Rows
end L2
set_option Elab.async false
set_option linter.all false
set_option maxRecDepth 100000
set_option maxHeartbeats 4000000
namespace L2
open PySem PySem.Spec PyProof.Rows
theorem atI_mem {xs : List V} {i : Int} (h0 : 0 ≤ i) (h1 : i < xs.length) : ∃ x, atI xs i = some x ∧ x ∈ xs := by
 have hi : i.toNat < xs.length := by omega
 exact ⟨xs[i.toNat], atI_pos h0 (List.getElem?_eq_getElem hi), List.getElem_mem hi⟩
end L2
set_option Elab.async false
set_option linter.all false
set_option maxRecDepth 100000
set_option maxHeartbeats 4000000
namespace L2
open PySem PySem.Spec PyProof.Rows
section
variable {X : Cx} {K : PySem.W.Frag}
end
section
variable {X : Cx} {pins : List (Addr × Obj)} {σ : St} {H : Hp} {s : Shared}
end
end L2
set_option Elab.async false
set_option linter.all false
set_option maxRecDepth 100000
set_option maxHeartbeats 4000000
namespace L2
open PySem PySem.Spec PyProof.Rows
section
variable {prog : Program} {w : World} {A : Around} {E : Value → Shared → Prop} {s : Shared}
end
end L2
set_option Elab.async false
set_option linter.all false
set_option maxRecDepth 100000
set_option maxHeartbeats 4000000
namespace L2
open PySem PySem.Spec PyProof.Rows
section
variable {X : Cx} {a b e : Expr} {es : List Expr} {te ta tb : TE} {t : TA} {pos : Pos}
theorem op_le_str : OpR X (compareOp .LtE) (fun x y H Q => ∃ i j, x = .str i ∧ y = .str j ∧ Q (.bl (!decide (j.cps.toList < i.cps.toList))) H) := by
 intro pins s σ H x y v u Q I rx ry h
 obtain ⟨i, j, rfl, rfl, q⟩ := h
 obtain ⟨t, rfl⟩ := rx
 obtain ⟨t', rfl⟩ := ry
 exact P.le_str (fin_bl I q rfl)
end
end L2
set_option Elab.async false
set_option linter.all false
set_option maxRecDepth 100000
set_option maxHeartbeats 4000000
namespace L2
open PySem PySem.Spec PyProof.Rows
end L2
set_option Elab.async false
set_option linter.all false
set_option maxRecDepth 100000
set_option maxHeartbeats 4000000
namespace L2
open PySem PySem.Spec PyProof.Rows
section
variable {X : Cx} {a b e : Expr} {es : List Expr} {te ta tb : TE} {t : TA} {pos : Pos} {st : Stmt} {rest : List Stmt} {ts us : TS}
end
end L2
set_option Elab.async false
set_option linter.all false
set_option maxRecDepth 100000
set_option maxHeartbeats 4000000
namespace L2
open PySem PySem.Spec PyProof.Rows
section
variable {X : Cx} {ex : St → XK} {C : Addr} {x m qual : Str} {st : Stmt} {ps : List Str} {k : Nat} {sp : Sp} {o e : Expr} {es : List Expr} {ta : TE} {t : TA} {apos p pos : Pos}
end
section
variable {P : Program} {w : World} {K : PySem.W.Frag} {mg : Str → Option Value} {base : Heap} {N : List Str} {qual : Str} {scope : Scope} {f : Addr} {cd : Value} {A : Around} {outer : List Env} {s0 : Shared} {H0 : Hp} {E : XK}
 {x : Str} {st : Stmt} {ps : List Str} {k : Nat} {sp : Sp} {e : Expr} {es : List Expr} {t : TA} {p pos : Pos}
end
end L2
set_option Elab.async false
set_option linter.all false
set_option maxRecDepth 100000
set_option maxHeartbeats 4000000
namespace L2
open PySem PySem.Spec PyProof.Rows
section
variable {X : Cx} {K : PySem.W.Frag} {e : Expr} {es : List Expr} {te : TE} {t : TA}
end
section
variable {P : Program} {w : World} {K : PySem.W.Frag} {mg : Str → Option Value} {base : Heap}
end
section
variable {X : Cx} {C : Addr} {m qual : Str} {st : Stmt} {ps : List Str} {k : Nat} {sp : Sp} {o : Expr} {ta : TE} {apos pos : Pos}
end
section
variable {X : Cx} {K : PySem.W.Frag}
end
end L2
set_option Elab.async false
set_option linter.all false
set_option maxRecDepth 100000
set_option maxHeartbeats 4000000
namespace L2
open PySem PySem.Spec PyProof.Rows
section
variable {X : Cx} {elt tg iter : Expr} {ifs : List Expr} {scope : Scope} {pos : Pos} {N : List Str} {own : Nat} {caps : List Nat} {g : TG} {tt : TT} {te : TE}
end
section
variable {M : Model} {A : Around} {E : Value → Shared → Prop} {s : Shared} {base : Heap} {env : Env} {outer : List Env} {L e : Addr} {Q : Unit → Shared → Prop}
end
section
variable {P : Program} {w : World} {K : PySem.W.Frag} {mg : Str → Option Value} {base : Heap} {N : List Str} {qual : Str} {scope : Scope} {f : Addr} {cd : Value} {A : Around} {outer : List Env} {s0 : Shared} {H0 : Hp} {E : XK}
end
section
variable {X : Cx} {E : XK} {elt tg iter : Expr} {ifs : List Expr} {scope : Scope} {pos : Pos} {N : List Str} {own : Nat} {caps : List Nat} {g : TG} {tt : TT} {te : TE} {wi : TI}
end
section
variable {X : Cx} {ex : St → XK} {x : Str} {st : Stmt} {ps : List Str} {k : Nat} {sp : Sp} {e : Expr} {es : List Expr} {t : TA} {p pos : Pos}
end
section
variable {X : Cx} {ex : St → XK} {C f : Addr} {fd : FuncData} {x : Str} {ps : List Str} {k : Nat} {sp : Sp} {dvs : List V} {ds : List Value} {e : Expr} {es : List Expr} {t : TA} {p pos : Pos}
end
end L2
set_option Elab.async false
set_option linter.all false
set_option maxRecDepth 100000
set_option maxHeartbeats 4000000
namespace L2
open PySem PySem.Spec PyProof.Rows
section
variable {P : Program} {w : World} {κ : Type} [DecidableEq κ] {knd : PySem.KeyKind P w κ} {A : Around} {E : Value → Shared → Prop} {s : Shared}
end
section
variable {P : Program} {w : World} {κ : Type} [DecidableEq κ] {knd : PySem.KeyKind P w κ} {A : Around} {E : Value → Shared → Prop} {s : Shared}
end
section
variable {P : Program} {w : World} {A : Around} {E : Value → Shared → Prop} {s : Shared}
theorem loop_setB {R : Result → Shared → Prop} {I S : Addr} {fp : List Addr} {n : Nat} {Pv : Nat → Value → Prop} {St : Nat → Heap → Prop} (W : Walks P w A.in1 I fp [I] n Pv St) (hS : S ∉ fp) (Good : Nat → Heap → Prop)
  (g1 : ∀ i h h', Good i h → (∀ b o, b ≠ I → h.get? b = some o → h'.get? b = some o) → Good i h')
  (g2 : ∀ (i : Nat) (s : Shared) (v : Value) (Q : Bool → Shared → Prop) (E' : Value → Shared → Prop), i < n → Pv i v → Good i s.heap → (∀ b h' tk, Heap.SameBut S s.heap h' → Good (i + 1) h' → Q b { s with heap := h', toks := tk }) →
   wpAny (model P w) A.in1 (setAdd S v) Q E' s) :
  ∀ (k i : Nat) (s : Shared), n - i = k → i ≤ n → St i s.heap → Good i s.heap →
   (∀ h' tk, (∀ b o, b ≠ S → b ≠ I → s.heap.get? b = some o → h'.get? b = some o) → Good n h' → R (.ok (.ret .none)) { s with heap := h', toks := tk }) →
   codeAny (model P w) A (.builtin "set.update.loop" ⟨[.ref S, .ref I], []⟩) R s := by
 have ent := PyProof.Rows.F.entry_set_update_loop
 have pln := PyProof.Rows.F.plain_set_update_loop
 intro k
 induction k with
 | zero =>
  intro i s hk hi st good q
  obtain rfl : i = n := by omega
  refine codeAny_builtin ent ?_; rw [Around.under_plainId pln _]
  refine wpAny_bind (W.done s _ _ st fun h' tk kp => ?_)
  exact wpAny_pure (q h' tk (fun b o _ b2 e => kp b o (by simpa using b2) e) (g1 _ _ _ good fun b o hb e => kp b o (by simpa using hb) e))
 | succ k ih =>
  intro i s hk hi st good q
  have lt : i < n := by omega
  refine codeAny_builtin ent ?_; rw [Around.under_plainId pln _]
  refine wpAny_bind (W.item i s _ _ lt st fun v h1 tk1 hv st1 kp => ?_)
  have good1 : Good i h1 := g1 _ _ _ good fun b o hb e => kp b o (by simpa using hb) e
  refine wpAny_bind (wpAny_holding (g2 i { s with heap := h1, toks := tk1 } v _ _ lt hv good1 fun b2 h2 tk2 sb good2 => ?_))
  refine wpAny_pure ⟨plainId_quiet pln _, ih (i + 1) _ (by omega) lt (W.frame _ h1 h2 st1 fun b hb o e => ?_) good2 fun h3 tk3 kp3 good3 => ?_⟩
  ·exact (sb.2 b fun z => hS (z ▸ hb)).trans e
  ·refine q h3 tk3 (fun b o b1 b2 e => kp3 b o b1 b2 ?_) good3
   exact (sb.2 b b1).trans (kp b o (by simpa using b2) e)
end
end L2
set_option Elab.async false
set_option linter.all false
set_option maxRecDepth 100000
set_option maxHeartbeats 4000000
namespace L2
open PySem PySem.Spec PyProof.Rows
theorem nodup_snoc {α : Type} {l : List α} {a : α} : (l ++ [a]).Nodup ↔ l.Nodup ∧ a ∉ l := by
 rw [List.nodup_append]
 constructor
 ·rintro ⟨h1, _, h3⟩
  exact ⟨h1, fun z => h3 a z a (List.mem_singleton.mpr rfl) rfl⟩
 ·rintro ⟨h1, h2⟩
  exact ⟨h1, by simp, fun x hx y hy e => h2 (by rw [List.mem_singleton.mp hy] at e; exact e ▸ hx)⟩
section
variable {X : Cx}
end
section
variable {X : Cx} {K : PySem.W.Frag}
end
end L2
set_option Elab.async false
set_option linter.all false
set_option maxRecDepth 100000
set_option maxHeartbeats 4000000
namespace L2
open PySem PySem.Spec PyProof.Rows
section
variable {X : Cx} {a b e : Expr} {ta tb te : TE} {pos : Pos}
end
end L2
set_option Elab.async false
set_option linter.all false
set_option maxRecDepth 100000
set_option maxHeartbeats 4000000
namespace L2
open PySem PySem.Spec PyProof.Rows PySem.W
section
variable {prog : Program} {w : World} {A : Around} {E : Value → Shared → Prop} {s : Shared} {K : PySem.W.Frag} {x D : Addr} {ox : Obj} {od : Option Obj}
theorem exc_road {name : Str} {tk : Tok} {expr fill : Bool} {Q : Value → Shared → Prop} (Y : XIs K D) (X : K.In s.heap) (I : PySem.W.InstAt s.heap x ox D od)
  (h : ∀ A', wpAny (model prog w) A' (Builtin.«object.__getattribute__» ⟨[.ref x, .str name tk], []⟩) (fun fin s' => ∃ v, fin = .done (.ret v) ∧ handedIn v = true ∧ Q v s') (fun _ _ => False) s) :
  wpAny (model prog w) A (getAttrBy (.ref x) (.str name tk) fill expr) Q E s := by
 obtain ⟨hh, g, d, t, os⟩ := s
 have L0 := I.type (M := model prog w)
 have L1 := looks_findIn (M := model prog w) X Y.ga
 have L2 := looks_findIn (M := model prog w) X Y.gt
 have L3 := looks_mroIn (M := model prog w) X Y.hb
 unfold getAttrBy
 refine wpAny_holding (wpAny_bind (L0.at (wpAny_bind (L1.at ?_))))
 have e1 : (onTheHeap (Value.ref D) && Value.builtin "BaseException.__getattribute__" == Value.builtin "object.__getattribute__") = false := by rw [show (Value.builtin "BaseException.__getattribute__" == Value.builtin "object.__getattribute__") = false by decide +kernel]; rfl
 simp only [e1]
 rw [if_neg (by decide)]
 unfold getAttrByItsOwn hookBefore
 rw [if_pos (show onTheHeap (Value.ref D) = true from rfl)]
 refine wpAny_bind (L2.at (wpAny_bind (wpAny_attempt (wpAny_holding ?_))))
 unfold callGetattribute boundAndCalled
 rw [if_neg (by cases expr <;> decide)]
 rw [PySem.F.excAttr_ValueError.ga.bind]
 refine wpAny_bind (wpAny_pure (wpAny_call (codeAny_call_builtin PySem.F.excAttr_ValueError.ga.plain F.entry_bexc_ga ?_)))
 have hk : builtinKind "BaseException.__getattribute__" = some .slot := by decide +kernel
 have hsp : splitId "BaseException.__getattribute__" = some ("BaseException", "__getattribute__") := by decide +kernel
 have ha := F.args_bexc_ga (.ref x) (.str name tk)
 simp only [checkBuiltinCall, hk, hsp]
 have LI : Looks (model prog w) hh (isInstance (.ref x) (.type "BaseException")) true := L0.andThen L3
 refine wpAny_bind (LI.at ?_)
 rw [if_neg (by decide)]
 refine wpAny_of_eq (a := ()) ha ?_
 refine wpAny_mono (h _) (fun fin s' z => ?_) (fun _ _ z => z.elim)
 obtain ⟨v, rfl, hv, q⟩ := z
 exact handed_on hv q
theorem exc_getO {name : Str} {v : Value} {expr : Bool} {Q : Value → Shared → Prop} (Y : XIs K D) (X : K.In s.heap) (I : PySem.W.InstAt s.heap x ox D od) (hf : findObj K D od name = some (.value v)) (hh : handedIn v = true)
  (h : Q v { s with toks := s.toks + 1 }) : wpAny (model prog w) A (getAttr (.ref x) name expr) Q E s := by
 unfold getAttr
 obtain ⟨hp, g, d, t, os⟩ := s
 refine wpAny_bind (wpAny_mkText (exc_road (s := ⟨hp, g, d, t + 1, os⟩) Y X I fun A' => ?_))
 have L0 := I.type (M := model prog w)
 have L1 := looks_find (M := model prog w) X I hf
 unfold Builtin.«object.__getattribute__»
 refine wpAny_bind (wpAny_pure ?_)
 refine wpAny_bind (wpAny_pure ?_)
 refine wpAny_bind (L0.at (wpAny_bind (L1.at ?_)))
 exact wpAny_pure ⟨v, rfl, hh, h⟩
end
abbrev newF (t : Addr) : Array Value := #[.ref t, .none, .none, .none, .bool false, .none]
def excX (a D : Addr) (dd : Option Addr) (nw : Bool) : HO := .ext fun h => ∃ ox vs, h.get? a = some ox ∧ ox.cls = .ref D ∧ ox.dict = dd ∧ ox.data = .fields vs ∧ (nw = true → ∃ t, vs = newF t)
def xdO (d : Addr) (fs : List (Str × V)) : HO := .ext fun h => ∃ mA, h.Ns1 d mA ∧ ∀ f, RelO (fs.lookup f) (mA f)
theorem xdO_ok {P : Program} {w : World} {H : Hp} {h : Heap} {d : Addr} {fs : List (Str × V)} {mA : Str → Option Value} (n : h.Ns1 d mA) (r : ∀ f, RelO (fs.lookup f) (mA f)) : ObjOk P w H h d (xdO d fs) := by
 obtain ⟨o, es, ep, e, q⟩ := id n
 refine ⟨⟨mA, n, r⟩, ⟨o, e⟩, fun h1 h2 ⟨m, ⟨o, es, ep, e, q⟩, r⟩ k => ⟨m, ⟨o, es, ep, k _ e, q⟩, r⟩⟩
theorem excX_ok {P : Program} {w : World} {H : Hp} {h : Heap} {a D : Addr} {dd : Option Addr} {nw : Bool} {ox : Obj} {vs : Array Value} (e : h.get? a = some ox) (c : ox.cls = .ref D) (d : ox.dict = dd) (f : ox.data = .fields vs) (n : nw = true → ∃ t, vs = newF t) :
  ObjOk P w H h a (excX a D dd nw) := ⟨⟨ox, vs, e, c, d, f, n⟩, ⟨ox, e⟩, fun h1 h2 ⟨ox, vs, e, r⟩ k => ⟨ox, vs, k _ e, r⟩⟩
section
variable {X : Cx} {K : PySem.W.Frag}
structure XGet (K : PySem.W.Frag) (D : Addr) (f : Str) : Prop where
 is : XIs K D
 no : findIn K (.ref D) f = some none
 hd : hasDictIn K D = true
def tXFld (K : PySem.W.Frag) (ta : TE) (f : Str) : TE := fun σ H Q => ta σ H fun x H1 => ∃ a D d nw fs v, x = .ref a ∧ H1 a = some (excX a D (some d) nw) ∧ H1 d = some (xdO d fs) ∧ XGet K D f ∧ fs.lookup f = some v ∧ Q v H1
theorem pe_xfld {e : Expr} {f : Str} {pos : Pos} {ta : TE} (hK : X.K = K) (he : PE X e ta) (hb : attributeBase e f X.env (eval e X.env) = eval e X.env) : PE X (.Attribute e f pos) (tXFld K ta f) := by
 subst hK
 intro pins s σ H Q I h
 refine attr_of hb (thn (he pins s σ H _ I h) fun u s1 ⟨x, H1, I1, rx, a, D, d, nw, fs, v, ex, ea, ed, G, l, q⟩ => ?_)
 subst ex
 obtain rfl : u = Value.ref a := rx
 obtain ⟨⟨mA, ns, r⟩, _⟩ := I1.hok d _ ed
 obtain ⟨⟨ox, vs, e1, c1, d1, f1, n1⟩, _⟩ := I1.hok a _ ea
 obtain ⟨o, ho, lk⟩ := lookIn_ns ns
 obtain ⟨u, hu, ru⟩ := RelO.some_of (v := v) (o := mA f) (by rw [← l]; exact r f)
 have nc : PySem.W.notCls ox = true := by unfold PySem.W.notCls; rw [f1]
 have J : PySem.W.InstAt s1.heap a ox D (some o) := ⟨e1, c1, nc, by rw [d1]; exact ho⟩
 obtain ⟨cd, hc, hdc⟩ := PySem.W.any_some G.hd
 have hf : findObj X.K D (some o) f = some (.value u) := by
  unfold findObj
  rw [hc, Option.bind_some, G.no, Option.bind_some]
  show (PySem.W.ownOf cd (some o) f).bind _ = _
  unfold PySem.W.ownOf
  rw [hdc, if_pos rfl]
  dsimp only
  rw [lk, hu]
  rfl
 exact exc_getO G.is I1.kIn J hf (handed_of ru) ⟨v, H1, I1.tok _, ru, q⟩
end
end L2
set_option Elab.async false
set_option linter.all false
set_option maxRecDepth 100000
set_option maxHeartbeats 4000000
namespace L2
open PySem PySem.Spec PyProof.Rows PySem.W PySem.Builtin PySem.Builtin.ObjectAttr
def onlyExc : List Value → Bool
 | .ref _ :: r => onlyExc r
 | [.type a, .type b, .type c, .type d] => a == "ValueError" && b == "Exception" && c == "BaseException" && d == "object"
 | _ => false
theorem onlyExc_refs : ∀ {l : List Value}, onlyExc l = true → ∃ (rs : List Addr), l = rs.map Value.ref ++ VB
 | .ref a :: r, e => by
  obtain ⟨rs, h⟩ := onlyExc_refs (l := r) (by unfold onlyExc at e; exact e)
  exact ⟨a :: rs, by rw [h]; rfl⟩
 | [.type a, .type b, .type c, .type d], e => by
  unfold onlyExc at e
  simp only [Bool.and_eq_true, beq_iff_eq] at e
  obtain ⟨⟨⟨rfl, rfl⟩, rfl⟩, rfl⟩ := e
  exact ⟨[], rfl⟩
theorem refuse_refs (self : Value) : ∀ (rs : List Addr), refuseLoop self "__setattr__" (rs.map Value.ref ++ VB) = pure ()
 | [] => PySem.F.store_ValueError.passes self
 | r :: rs => by
  show refuseLoop self "__setattr__" (.ref r :: (rs.map Value.ref ++ VB)) = pure ()
  rw [refuseLoop_ref]
  exact refuse_refs self rs
theorem has_object (rs : List Addr) : (rs.map Value.ref ++ VB).contains (.type "object") = true := by
 rw [List.contains_iff_mem]
 exact List.mem_append_right _ (by simp)
section
variable {prog : Program} {w : World} {A : Around} {K : PySem.W.Frag} {C x : Addr} {s : Shared} {R : Result → Shared → Prop} {E : Value → Shared → Prop}
structure XSet (K : PySem.W.Frag) (D : Addr) (f : Str) : Prop where
 sa : findIn K (.ref D) "__setattr__" = some (some (.builtin "object.__setattr__"))
 mr : (clsIn K D).any (fun cd => onlyExc cd.mro) = true
 no : findIn K (.ref D) f = some none
 hd : hasDictIn K D = true
theorem osa_exc {ox : Obj} {od : Option Obj} {name : Str} {tk : Tok} {v : Value} (X : K.In s.heap) (I : PySem.W.InstAt s.heap x ox C od) (Y : XSet K C name)
  (h : ∀ b, wpAny (model prog w) A.in1 (storeInOwnDict (.ref x) (.ref C) (.str name tk) name v b)
   (fun fin s' => match fin with | .done f => R (.ok f) s' | .again c' => c'.quiet = true ∧ codeAny (model prog w) A c' R s') (fun e s' => R (.error e) s') s) :
  codeAny (model prog w) A (.call (.builtin "object.__setattr__") ⟨[.ref x, .str name tk, v], []⟩) R s := by
 have SF := PySem.F.store_object
 obtain ⟨cd, hc, ho⟩ := any_some Y.mr
 obtain ⟨rs, hm⟩ := onlyExc_refs ho
 have ne : cd.mro.isEmpty = false := by rw [hm]; cases rs <;> rfl
 have sub : Looks (model prog w) s.heap (isInstance (.ref x) (.type "object")) true := I.type.andThen (looks_mroIn X (by unfold mroIn; rw [hc, Option.bind_some, if_neg (by rw [ne]; decide), hm, has_object]))
 refine codeAny_call_builtin SF.slot.plain SF.entry (@check_slot (model prog w) _ _ s "object.__setattr__" "object" "__setattr__" (.ref x) [.str name tk, v] [] _ SF.kind SF.split sub (SF.args (.ref x) (.str name tk) v) ?_)
 have hmr : Looks (model prog w) s.heap (mroOf (.ref C)) cd.mro := (looks_clsIn X hc).andThen .now
 have L3 : Looks (model prog w) s.heap (storeTaker? none) none := .now
 rw [osa_eq, refuse_eq]
 refine wpAny_bind (wpAny_bind (I.type.here (wpAny_bind (hmr.here ?_))))
 rw [hm, refuse_refs]
 refine wpAny_pure (wpAny_bind (I.type.here (wpAny_bind ((looks_findIn X Y.no).here (wpAny_bind (L3.here ?_))))))
 exact h _
theorem set_exc0 {ox : Obj} {vs : Array Value} {name : Str} {v : Value} {Q : Unit → Shared → Prop} (X : K.In s.heap) (hx : s.heap.get? x = some ox) (hcl : ox.cls = .ref C) (hdd : ox.dict = none) (hdt : ox.data = .fields vs) (Y : XSet K C name)
  (h : ∀ h' d', h'.Ns1 d' (fun y => if y = name then some v else none) → h'.get? x = some { ox with dict := some d' } → (∀ b o, b ≠ x → s.heap.get? b = some o → h'.get? b = some o) → s.heap.get? d' = none → d' ≠ x → (∃ o, h'.get? d' = some o) →
   s.heap.objs.size ≤ d' → Q () { s with heap := h', toks := s.toks + 2 }) :
  wpAny (model prog w) A (setAttr (.ref x) name v) Q E s := by
 obtain ⟨hh, g, d, t, os⟩ := s
 obtain ⟨oc, od, oda, osl⟩ := ox
 simp only at hcl hdd hdt
 subst hcl hdd hdt
 have I : PySem.W.InstAt hh x ⟨.ref C, none, .fields vs, osl⟩ C none := ⟨hx, rfl, rfl, True.intro⟩
 refine PySem.W.set_plain X I Y.sa (osa_exc (s := ⟨hh, g, d, t + 1, os⟩) X I Y fun b => ?_)
 obtain ⟨cd, hc, hd'⟩ := PySem.W.any_some Y.hd
 refine wpAny_bind (wpAny_pure (wpAny_bind (wpAny_bind (wpAny_loadPart hx (wpAny_bind (PySem.W.Looks.here (s := ⟨hh, g, d, t + 1, os⟩) (PySem.W.looks_clsIn X hc) ?_))))))
 rw [hd']
 have hx1 : (hh.push { cls := .type "dict", data := .dict #[] }).get? x = some ⟨.ref C, none, .fields vs, osl⟩ := Heap.get?_push_of_some _ hx
 have hxs : x ≠ hh.objs.size := Nat.ne_of_lt (Heap.lt_size hx)
 refine wpAny_bind (wpAny_alloc' ?_)
 refine wpAny_bind (wpAny_update' hx1 ?_)
 refine wpAny_pure ?_
 have hgd : ((hh.push { cls := .type "dict", data := .dict #[] }).update x fun o => { cls := o.cls, dict := some hh.objs.size, data := o.data, slots := o.slots }).get? hh.objs.size
   = some { cls := .type "dict", data := .dict #[] } :=
  (Heap.get?_update_ne _ _ _ _ hxs.symm).trans (Heap.get?_push_at rfl rfl)
 have hnd : ((hh.push { cls := .type "dict", data := .dict #[] }).update x fun o => { cls := o.cls, dict := some hh.objs.size, data := o.data, slots := o.slots }).Ns hh.objs.size (fun _ => none) :=
  ⟨_, #[], _, hgd, rfl, fun e he => absurd he (by simp), fun _ => rfl⟩
 show wpAny _ _ (storeInDict hh.objs.size (.str name _) name v) _ _ _
 unfold storeInDict newKeyGuard
 refine wpAny_bind (wpAny_pure (wpAny_bind (wpAny_nsSet1 (Heap.Ns1.of_empty hnd) fun h' hn' hs => ?_)))
 obtain ⟨oD, esD, epD, hoD, hdD, hcD⟩ := hn'.count (Within.cons name v Within.nil)
 refine wpAny_bind (wpAny_lookBehind hoD (by rw [hdD]; exact pastItsLine_dict (Nat.le_trans hcD (by rw [List.length_cons, List.length_nil, sizeLine_eq]; omega))) ?_)
 refine wpAny_pure (h h' hh.objs.size ?_ ?_ (fun b o hb e => ?_) (Heap.get?_none_of_le (Nat.le_refl _)) hxs.symm ⟨_, hoD⟩ (Nat.le_refl _))
 ·exact hn'
 ·refine (hs.2 x hxs).trans (Heap.get?_update_self _ hx1 rfl)
 ·exact (hs.2 b (Nat.ne_of_lt (Heap.lt_size e))).trans ((Heap.get?_update_ne _ _ _ _ hb).trans (Heap.get?_push_of_some _ e))
theorem set_exc1 {ox : Obj} {vs : Array Value} {name : Str} {v : Value} {dx : Addr} {mA : Str → Option Value} {ns : List Str} {Q : Unit → Shared → Prop} (X : K.In s.heap) (hx : s.heap.get? x = some ox) (hcl : ox.cls = .ref C) (hdd : ox.dict = some dx) (hdt : ox.data = .fields vs) (Y : XSet K C name)
  (hn : s.heap.Ns1 dx mA) (hw : Within mA ns) (hsz : ns.length ≤ sizeLine) (h : ∀ h', h'.Ns1 dx (fun y => if y = name then some v else mA y) → Heap.SameBut dx s.heap h' → Q () { s with heap := h', toks := s.toks + 2 }) :
  wpAny (model prog w) A (setAttr (.ref x) name v) Q E s := by
 obtain ⟨hh, g, d, t, os⟩ := s
 obtain ⟨oc, od, oda, osl⟩ := ox
 simp only at hcl hdd hdt
 subst hcl hdd hdt
 obtain ⟨o, es, ep, ho, _⟩ := id hn
 have I : PySem.W.InstAt hh x ⟨.ref C, some dx, .fields vs, osl⟩ C (some o) := ⟨hx, rfl, rfl, ho⟩
 refine PySem.W.set_plain X I Y.sa (osa_exc (s := ⟨hh, g, d, t + 1, os⟩) X I Y fun b => ?_)
 obtain ⟨cd, hc, hd'⟩ := PySem.W.any_some Y.hd
 refine wpAny_bind (wpAny_pure (wpAny_bind (wpAny_bind (wpAny_loadPart hx (wpAny_bind (PySem.W.Looks.here (s := ⟨hh, g, d, t + 1, os⟩) (PySem.W.looks_clsIn X hc) ?_))))))
 rw [hd']
 refine wpAny_pure (a := some dx) (wpAny_bind (wpAny_pure (wpAny_bind ?_)))
 refine wpAny_nsSet1 (s := ⟨hh, g, d, t + 1, os⟩) hn fun h' hn2 hs2 => ?_
 obtain ⟨oD, esD, epD, hoD, hdD, hcD⟩ := hn2.count (PySem.Within.cons name v hw)
 refine wpAny_bind (wpAny_lookBehind hoD (by rw [hdD]; exact pastItsLine_dict (Nat.le_trans hcD (by rw [List.length_cons]; omega))) ?_)
 exact wpAny_pure (h _ hn2 hs2)
end
def sXFld (K : PySem.W.Frag) (ta tv : TE) (f : Str) : TS := fun D σ H => tv σ H fun y H1 => ta σ H1 fun x H2 => ∃ a C nw, x = .ref a ∧ XSet K C f ∧
 ((H2 a = some (excX a C none nw) ∧ ∀ d, H2 d = none → d ≠ a → D.nx σ (upd (upd H2 a (excX a C (some d) nw)) d (xdO d [(f, y)]))) ∨
  ∃ d fs, H2 a = some (excX a C (some d) nw) ∧ H2 d = some (xdO d fs) ∧ fs.length < 1000 ∧ D.nx σ (upd H2 d (xdO d (putF f y fs))))
section
variable {X : Cx} {K : PySem.W.Frag}
theorem ps_xfld {o value : Expr} {f : Str} {pos pos' : Pos} {ta tv : TE} (hK : X.K = K) (hex : X.ex = []) (ha : PE X o ta) (hv : PE X value tv) (hs : swapsWith value (some (.Attribute o f pos')) pos.line X.env = pure false) :
  PS X (.Assign [.Attribute o f pos'] value pos) (sXFld K ta tv f) := by
 subst hK
 intro pins s σ H D I h
 refine plainObj_wpAny_Assign_Attribute (thn (hv pins s σ H _ I h) fun u s1 ⟨y, H1, I1, ry, q⟩ => thn (ha pins s1 σ H1 _ I1 q) fun ov s2 ⟨x, H2, I2, rx, a, C, nw, ex, Y, q2⟩ => ?_) hs
 subst ex
 obtain rfl : ov = Value.ref a := rx
 rcases q2 with ⟨ea, q2⟩ | ⟨d, fs, ea, ed, hl, q2⟩
 ·obtain ⟨⟨ox, vs, e1, c1, d1, f1, n1⟩, _⟩ := I2.hok a _ ea
  refine set_exc0 I2.kIn e1 c1 d1 f1 Y fun h' d' hn hx' kp nd ne hod _ => ?_
  have aw := I2.away hex nd
  have I3 : Inv X pins σ (upd H2 a (excX a C (some d') nw)) { s2 with heap := h', toks := s2.toks + 2 } :=
   I2.write (x := a) (e := a) (by rw [ea]; exact True.intro) (.inl rfl) (fun b w hb e => kp b w hb e) ⟨_, hx'⟩ (excX_ok hx' c1 rfl f1 n1)
  refine ⟨σ, _, I3.track (o := xdO d' [(f, y)]) hex ⟨by rw [upd_ne ne]; exact aw.n, aw.z, aw.l, aw.c, aw.p⟩ (xdO_ok hn fun g => ?_), q2 d' aw.n ne⟩
  by_cases z : g = f
  ·have hb : (g == f) = true := beq_iff_eq.mpr z
   simp only [List.lookup, hb, if_pos z]
   exact ry
  ·have hb : (g == f) = false := beq_eq_false_iff_ne.mpr z
   simp only [List.lookup, hb, if_neg z]
   exact True.intro
 ·obtain ⟨⟨ox, vs, e1, c1, d1, f1, n1⟩, _⟩ := I2.hok a _ ea
  obtain ⟨⟨mA, hn, r⟩, _⟩ := I2.hok d _ ed
  have wi : PySem.Within mA (fs.map (·.1)) := fun g hg => by
   by_cases m : g ∈ fs.map (·.1)
   ·exact m
   ·have : fs.lookup g = none := by
     rw [List.lookup_eq_none_iff]
     intro p hp
     simp only [bne_iff_ne, ne_eq]
     exact fun z => m (List.mem_map.mpr ⟨p, hp, z.symm⟩)
    exact absurd (RelO.none_of (by rw [← this]; exact r g)) hg
  refine set_exc1 I2.kIn e1 c1 d1 f1 Y hn wi (by rw [List.length_map, sizeLine_eq]; omega) fun h' hn' sb => ?_
  refine ⟨σ, _, I2.write (x := d) (e := d) (by rw [ed]; exact True.intro) (.inl rfl) (fun b w hb e => (sb.2 b hb).trans e) (let ⟨o, _, _, e', _⟩ := hn'; ⟨o, e'⟩) (xdO_ok hn' fun g => ?_), q2⟩
  show RelO ((putF f y fs).lookup g) (if g = f then some u else mA g)
  rw [lookup_putF]
  by_cases q : g = f
  ·rw [if_pos q, if_pos q]; exact ry
  ·rw [if_neg q, if_neg q]; exact r g
end
end L2
set_option Elab.async false
set_option linter.all false
set_option maxRecDepth 100000
set_option maxHeartbeats 4000000
namespace L2
open PySem PySem.Spec PyProof.Rows PySem.W
def exiIn (K : PySem.W.Frag) (C f : Addr) : Bool := match K.lookup C with
 | some ⟨.type "type", _, .cls cd, sl⟩ => (match cd.mro, sl.toList with
  | .ref C' :: bm, [_, _, _, _, some (.builtin n), _] => C' == C && n == "ValueError.__new__" && !cd.hasDel && tailIn K VB bm && nsOkIn K cd.ns && nsIn K cd.ns "__init__" == some (some (.ref f))
  | _, _ => false)
 | _ => false
theorem ns_some {K : PySem.W.Frag} {h : Heap} {N : Addr} {m : Str → Option Value} {x : Str} {v : Value} (X : K.In h) (G : h.Ns N m) (e : nsIn K N x = some (some v)) : m x = some v := by
 obtain ⟨ob, rows, pp, g1, g2, g3, g4⟩ := G
 unfold nsIn at e
 split at e
 case h_2 => cases e
 case h_1 c1 d1 rows' n1 sl1 lk =>
  have same := X _ _ lk
  rw [g1] at same
  cases same
  cases g2
  split at e
  case h_1 en found =>
   cases e
   rw [← g4]
   unfold nsFind findBy
   rw [← Array.find?_toList, found]; rfl
  case h_2 => split at e <;> cases e
theorem nsMap_some {K : PySem.W.Frag} {h : Heap} {N : Addr} {x : Str} {v : Value} (X : K.In h) (ok : nsOkIn K N = true) (e : nsIn K N x = some (some v)) : h.nsMap N x = some v := ns_some X (.of_isNs (isNs_of_in X ok)) e
theorem exi_par {K : PySem.W.Frag} {C f : Addr} (q : exiIn K C f = true) :
  ∃ (bm : List Value) (N : Addr) (nm qn : Str) (bs : List Value) (hdct : Bool) (sn : List Str) (sub : List Value) (ab : Bool) (col : Option Bool) (dd : Option Addr) (k0 k1 k2 k3 k5 : Option Value), ∀ h : Heap, K.In h →
   h.get? C = some (excClassObj nm qn C N bs bm hdct sn sub ab col dd k0 k1 k2 k3 k5 "ValueError.__new__") ∧ (∃ mN, h.Ns N mN ∧ mN "__init__" = some (.ref f)) ∧ OwnTail h VB bm := by
 unfold exiIn at q
 split at q
 case h_2 => cases q
 case h_1 dd cd sl ho =>
  split at q
  case h_2 => cases q
  case h_1 C' bm k0 k1 k2 k3 n k5 hm hs =>
   obtain ⟨nm, bs, mro, ns, qn, hdt, sn, sub, ab, col, del⟩ := cd
   obtain ⟨l⟩ := sl
   simp only [Bool.and_eq_true, beq_iff_eq, Bool.not_eq_true'] at q
   obtain ⟨⟨⟨⟨⟨q1, q2⟩, q3⟩, q4⟩, q5⟩, q6⟩ := q
   subst q1 q2
   simp only at hm hs q3 q5 q6
   subst hm hs q3
   exact ⟨bm, ns, nm, qn, bs, hdt, sn, sub, ab, col, dd, k0, k1, k2, k3, k5, fun h X => ⟨X _ _ ho, ⟨_, .of_isNs (PySem.W.isNs_of_in X q5), nsMap_some X q5 q6⟩, PySem.W.tail_of_in X q4⟩⟩
section
variable {prog : Program} {w : World} {A : Around} {E : Value → Shared → Prop} {hp : Heap} {g : Array GenState} {d : Drawn} {t : Nat} {os : OsState}
variable {nm qn : Str} {C N : Addr} {bs bm : List Value} {hdct : Bool} {sn : List Str} {sub : List Value} {ab : Bool} {col : Option Bool} {dd : Option Addr} {k0 k1 k2 k3 k5 : Option Value}
theorem type_call_init (T : OwnTail hp VB bm) {mN : Str → Option Value} {xs : List Value} {fI : Addr} {oI : Obj} {Q : Fin → Shared → Prop}
  (hC : hp.get? C = some (excClassObj nm qn C N bs bm hdct sn sub ab col dd k0 k1 k2 k3 k5 "ValueError.__new__")) (hn : hp.Ns N mN) (hi : mN "__init__" = some (.ref fI))
  (hfI : hp.get? fI = some oI) (hfc : oI.cls = .type "function") (hxs : xs.length ≤ sizeLine)
  (hq : ∀ h' e, Heap.MadeExcOf hp h' e (.ref C) xs → wpAny (model prog w) A (call (.ref fI) (.ref e :: xs)) (fun r s' => r = .none ∧ Q (.done (.ret (.ref e))) s') E ⟨h', g, d, t, os⟩) :
  wpAny (model prog w) A (Builtin.«type.__call__» ⟨.ref C :: xs, []⟩) Q E ⟨hp, g, d, t, os⟩ := by
 have F := PySem.F.excBase_ValueError
 repeat (first | with_reducible refine wpAny_loadPart_at hC ?_ | with_reducible refine wpAny_madeBy_exc hC ?_ | wp_step)
 refine codeAny_call_builtin_code (Code.quiet_builtin _ F.quiet) (wpAny_check_new_subU F F.hasB T hC (codeAny_exc_new_subU F F.hasB F T hC ?_ hxs))
 show wpAny _ _ _ _ _ _
 generalize o1 : ({ cls := .type "tuple", data := .seq xs.toArray } : Obj) = ot
 generalize o2 : ({ cls := .ref C, data := .fields #[.ref hp.objs.size, .none, .none, .none, .bool false, .none] } : Obj) = oe
 have up : ∀ {b : Addr} {o : Obj}, hp.get? b = some o → ((hp.push ot).push oe).get? b = some o := fun z => Heap.get?_push_of_some _ (Heap.get?_push_of_some _ z)
 have cls := up hC
 have nsp : ((hp.push ot).push oe).Ns N mN := let ⟨o, es, ep, e, r⟩ := hn; ⟨o, es, ep, up e, r⟩
 have made : ((hp.push ot).push oe).get? (hp.objs.size + 1) = some oe := by
  have z := Heap.get?_push_size (hp.push ot) (o := oe) (by rw [← o2]; rfl)
  rwa [Heap.size_push] at z
 have self : (Value.ref C :: bm).contains (.ref C) = true := by rw [List.contains_cons, beq_self_eq_true]; rfl
 have T1 := T.keeps (h' := (hp.push ot).push oe) fun b o e => up e
 unfold isInstance
 have mcls : oe.cls = .ref C := by rw [← o2]
 repeat (first | (with_reducible refine wpAny_loadPart_at made ?_; rw [mcls]) | (with_reducible refine wpAny_isSubtype_exc cls ?_; rw [self]) | wp_step)
 refine wpAny_typeLookup_tail cls nsp T1 F.mroIs F.init.lookup ?_
 rw [hi]
 refine wpAny_holding (wpAny_bind ?_)
 unfold bindSpecial
 refine wpAny_bind (wpAny_typeOf (T := "function") ⟨_, up hfI, hfc⟩ ?_)
 rw [if_pos (by decide)]
 have mk : Heap.MadeExcOf hp ((hp.push ot).push oe) (hp.objs.size + 1) (.ref C) xs := by
  refine ⟨fun b o hb => up hb, Heap.get?_none_of_le (Nat.le_succ _), hp.objs.size, by rw [made, ← o2], Heap.get?_none_of_le (Nat.le_refl _), ?_⟩
  rw [Heap.get?_push_of_some _ (Heap.get?_push_at rfl (by rw [← o1]; rfl)), ← o1]
 refine wpAny_pure (wpAny_bind (wpAny_mono (hq _ (hp.objs.size + 1) mk) (fun r s' hr => ?_) fun _ _ x => x))
 obtain ⟨rfl, z⟩ := hr
 wp_walk
 exact z
theorem call_init (T : OwnTail hp VB bm) {mN : Str → Option Value} {xs : List Value} {fI : Addr} {oI : Obj} {Q : Value → Shared → Prop}
  (hC : hp.get? C = some (excClassObj nm qn C N bs bm hdct sn sub ab col dd k0 k1 k2 k3 k5 "ValueError.__new__")) (hn : hp.Ns N mN) (hi : mN "__init__" = some (.ref fI))
  (hfI : hp.get? fI = some oI) (hfc : oI.cls = .type "function") (hxs : xs.length ≤ sizeLine)
  (hq : ∀ h' e, Heap.MadeExcOf hp h' e (.ref C) xs → wpAny (model prog w) (A.under (.builtin "type.__call__" ⟨.ref C :: xs, []⟩)) (call (.ref fI) (.ref e :: xs)) (fun r s' => r = .none ∧ Q (.ref e) s') E ⟨h', g, d, t, os⟩) :
  wpAny (model prog w) A (call (.ref C) xs) Q E ⟨hp, g, d, t, os⟩ := by
 have f1 := tc_lookup
 have f2 := tc_bind (.ref C)
 have ty : (⟨hp, g, d, t, os⟩ : Shared).TypeIs (.ref C) "type" := ⟨_, hC, rfl⟩
 refine wpAny_call (codeAny_of_tree ?_)
 show wpAny _ _ (callAny (.ref C) _) _ _ _
 repeat (any_goals (first | assumption | with_reducible refine wpAny_loadPart_at hC ?_ | wp_step))
 refine ⟨rfl, codeAny_call_builtin_at (Code.quiet_builtin _ (by decide +kernel)) entry_typeCall (wpAny_check_type_call_sub hC (type_call_init T hC hn hi hfI hfc hxs fun h' e hm => ?_))⟩
 exact hq h' e hm
end
end L2
set_option Elab.async false
set_option linter.all false
set_option maxRecDepth 100000
set_option maxHeartbeats 4000000
namespace L2
open PySem PySem.Spec PyProof.Rows PySem.W
structure XMk (K : PySem.W.Frag) (C f : Addr) : Prop where
 x : exiIn K C f = true
 fn : isFn K (.ref f) = true
 kp : keepIn K (.ref C) = true
theorem fn_there {K : PySem.W.Frag} {h : Heap} {f : Addr} (X : K.In h) (q : isFn K (.ref f) = true) : ∃ o, h.get? f = some o ∧ o.cls = .type "function" := by
 have e := beq_iff_eq.mp q
 unfold typeIn at e
 simp only [Option.map_eq_some_iff] at e
 obtain ⟨o, ho, c⟩ := e
 exact ⟨o, X _ _ ho, c⟩
def tXMake (C : Addr) (sp : Sp) (E : XK) (t : TA) : TE := fun σ H Q => t σ H fun vs H1 => ∀ x, H1 x = none → sp (.ref x :: vs) (upd H1 x (excX x C none true)) (fun v H2 => v = .non ∧ Q (.ref x) H2) E
section
variable {X : Cx} {CX : CXT} {k : Nat} {f C : Addr} {fd : FuncData} {ps : List Str} {sp : Sp} {E : XK} {x : Str} {p pos : Pos} {e : Expr} {es : List Expr} {t : TA}
theorem madeX {pins : List (Addr × Obj)} {σ : St} {H : Hp} {s : Shared} {h' : Heap} {a : Addr} {us : List Value} (I : Inv X pins σ H s) (hex : X.ex = []) (mk : Heap.MadeExcOf s.heap h' a (.ref C) us) : H a = none ∧ Inv X pins σ (upd H a (excX a C none true)) { s with heap := h' } := by
 obtain ⟨t, he, _, _⟩ := mk.there
 have aw := I.away hex mk.new
 exact ⟨aw.n, (I.kept (t' := s.toks) fun b o z => mk.keeps b o z).track hex aw (excX_ok he rfl rfl rfl fun _ => ⟨t, rfl⟩)⟩
theorem run_xmakeN {pins : List (Addr × Obj)} {σ : St} {H : Hp} {s : Shared} {Q : VK} {us : List Value} {vs : List V} (hex : X.ex = []) (M : XMk X.K C f) (F : FnOk X.prog X.w X.K X.mg X.base CX k f fd ps sp) (hr : Room (k + 1) X.A) (hb : Binds X.K fd ps [])
  (hx : Passes CX X E) (I : Inv X pins σ H s) (r : Vals vs us) (hu : us.length ≤ sizeLine)
  (h : ∀ x, H x = none → sp (.ref x :: vs) (upd H x (excX x C none true)) (fun v H2 => v = .non ∧ Q (.ref x) H2) E) :
  wpAny (model X.prog X.w) X.A (call (.ref C) us) (fun u s' => ∃ a H', u = .ref a ∧ s.heap.get? a = none ∧ Inv X pins σ H' s' ∧ Q (.ref a) H') X.xe s := by
 obtain ⟨bm, NS, nm, qn, bs, hdct, sn, sub, ab, col, dd, k0, k1, k2, k3, k5, par⟩ := exi_par M.x
 obtain ⟨hC, ⟨mN, hN, hi⟩, T⟩ := par _ I.kIn
 obtain ⟨oI, hfI, hfc⟩ := fn_there I.kIn M.fn
 refine call_init T hC hN hi hfI hfc hu fun h' a mk => ?_
 obtain ⟨na, I2⟩ := madeX I hex mk
 have hq := h a na
 have r2 : Vals (V.ref a :: vs) (Value.ref a :: us) := .cons rfl r
 have hl : ((Value.ref a :: us) ++ []).length = ps.length := by
  have z := r2.length
  rw [F.len _ _ _ _ hq] at z
  rw [List.append_nil]
  exact z.symm
 have hb2 := hb { s with heap := h' } (Value.ref a :: us) I2.kIn hl
 rw [List.append_nil] at hb2
 refine wpAny_call (codeAny_mono (F.run _ X.stack _ _ ⟨Value.ref a :: us, []⟩ (Value.ref a :: us) _ _ E (hr.make C us []) (I2.env0.make C us []) hb2 r2 hq) fun q s' hq' => ?_)
 cases q with
 | error z => exact hx pins σ _ _ z s' I2 hq'
 | ok fl =>
  cases fl with
  | ret u =>
   obtain ⟨v, H', I3, rv, ev, q3⟩ := I2.after hq'
   subst ev
   exact ⟨rv, ⟨a, H', rfl, mk.new, I3, q3⟩⟩
  | next => exact False.elim hq'
  | brk => exact False.elim hq'
  | cont => exact False.elim hq'
end
def del (H : Hp) (a : Addr) : Hp := fun b => if b = a then none else H b
theorem del_same {H : Hp} {a : Addr} : del H a a = none := if_pos rfl
theorem del_ne {H : Hp} {a b : Addr} (h : b ≠ a) : del H a b = H b := if_neg h
theorem HOk.del {P : Program} {w : World} {H : Hp} {h : Heap} {a : Addr} {φ : Heap → Prop} (x : HOk P w H h) (ea : H a = some (.ext φ)) : HOk P w (del H a) h := fun b o e => by
 have hb : b ≠ a := fun z => by rw [z, del_same] at e; cases e
 rw [del_ne hb] at e
 have nx : ∀ {c : Addr} {u : HO}, (∀ ψ, u ≠ .ext ψ) → H c = some u → L2.del H a c = some u := fun {c u} n q => by
  rw [del_ne fun z => by rw [z, ea] at q; cases q; exact n _ rfl]
  exact q
 exact (x b o e).stay (fun _ _ _ q => q) (fun c q => nx (fun _ z => nomatch z) q) fun c ys q => nx (fun _ z => nomatch z) q
section
variable {M : Model} {A : Around} {E : Value → Shared → Prop} {env : Env} {nm qn : Str} {C N : Addr} {bs bm : List Value} {hdct : Bool} {sn : List Str} {sub : List Value} {ab : Bool} {col : Option Bool} {dd : Option Addr} {k0 k1 k2 k3 k5 : Option Value}
theorem raise_made {s : Shared} {x : Sem Value} {Q : Flow → Shared → Prop} (hbase : bm.contains (.type "BaseException") = true) (hh : A.handled = none)
  (h : wpAny M A x (fun v s1 => ∃ a t oe, v = .ref a ∧ s1.heap.get? C = some (excClassObj nm qn C N bs bm hdct sn sub ab col dd k0 k1 k2 k3 k5 "ValueError.__new__") ∧ s1.heap.get? a = some oe ∧ oe.cls = .ref C ∧ oe.data = .fields (newF t) ∧ E (.ref a) s1) E s) :
  wpAny M A (raiseStmt env (some x) none) Q E s := by
 have has : (Value.ref C :: bm).contains (.type "BaseException") = true := by rw [List.contains_cons, hbase]; exact Bool.or_true _
 unfold raiseStmt
 refine wpAny_bind (wpAny_mono h (fun v s1 q => ?_) fun _ _ z => z)
 obtain ⟨a, t, ⟨oc, od, oda, osl⟩, rfl, cls, made, e1, e2, out⟩ := q
 simp only at e1 e2
 subst e1 e2
 obtain ⟨hp, g, d, tk, os⟩ := s1
 repeat (first | with_reducible refine wpAny_loadPart_at made ?_ | with_reducible refine wpAny_loadPart_at cls ?_ | (with_reducible refine wpAny_isSubtype_exc cls ?_; rw [has]) | wp_step)
 exact wpAny_raiseNew_none hh out
end
section
variable {P : Program} {w : World} {K : PySem.W.Frag} {mg : Str → Option Value} {base : Heap} {N : List Str} {qual : Str} {scope : Scope} {f : Addr} {cd : Value} {A : Around} {outer : List Env} {s0 : Shared} {H0 : Hp} {E : XK}
 {k : Nat} {f2 C : Addr} {fd : FuncData} {ps : List Str} {sp : Sp} {x : Str} {p np cpos pos : Pos} {e : Expr} {es : List Expr} {t : TA}
def tXRaise (C : Addr) (sp : Sp) (E : XK) (t : TA) : TS := fun _ σ H => tXMake C sp E0 t σ H fun v H2 => ∃ a d, v = .ref a ∧ H2 a = some (excX a C (some d) true) ∧ E (.ref C) (some d) (del H2 a)
theorem ps_raiseI (M : XMk K C f2) (F : FnOk P w K mg base CX0 k f2 fd ps sp) (hr : Room (k + 1) (cxOf (CX1 P w) P w K mg base N qual scope f cd A outer s0 H0 E).A) (hg : Gl (cxOf (CX1 P w) P w K mg base N qual scope f cd A outer s0 H0 E) x) (hm : mg x = some (.ref C)) (hb : Binds K fd ps [])
  (ha : PA (cxOf (CX1 P w) P w K mg base N qual scope f cd A outer s0 H0 E) (e :: es) t) (hps : ps.length ≤ 1000 := by decide) (hdb : (x == ("__debug__" : Str)) = false := by decide)
  (he : starEach (e :: es) (cxOf (CX1 P w) P w K mg base N qual scope f cd A outer s0 H0 E).env = (false, eval e (cxOf (CX1 P w) P w K mg base N qual scope f cd A outer s0 H0 E).env) :: starEach es (cxOf (CX1 P w) P w K mg base N qual scope f cd A outer s0 H0 E).env := by rfl)
  (hpl : (backTo cpos (starEach es (cxOf (CX1 P w) P w K mg base N qual scope f cd A outer s0 H0 E).env)).any (·.1) = false := by rfl) :
  PS (cxOf (CX1 P w) P w K mg base N qual scope f cd A outer s0 H0 E) (.Raise (some (.Call (.Name x np) (e :: es) [] cpos)) none pos) (tXRaise C sp E t) := by
 intro pins s σ H D I h
 obtain ⟨bm, NS, nm, qn, bs, hdct, sn, sub, ab, col, dd, k0, k1, k2, k3, k5, par⟩ := exi_par M.x
 obtain ⟨hC, _, T⟩ := par _ I.kIn
 rw [arm_exec_Raise]
 refine wpAny_bind (wpAny_standAt (raise_made (C := C) (nm := nm) (qn := qn) (N := NS) (bs := bs) (bm := bm) (hdct := hdct) (sn := sn) (sub := sub) (ab := ab) (col := col) (dd := dd) (k0 := k0) (k1 := k1) (k2 := k2) (k3 := k3) (k5 := k5) (T.hasType PySem.F.excBase_ValueError.hasBase) (I.ok.hd rfl) ?_))
 refine wpAny_bind (wpAny_Call_Name_kw (ld_glob I hg hm ?_ hdb))
 refine PySem.W.callWith_K (h₀ := base) I.ok.mod.kin M.kp (thn (ha cpos pins s σ H _ I h) fun us s1 ⟨vs, H1, I1, r, q⟩ => ⟨I1.kIn, ?_⟩) he hpl
 have lv := F.len _ _ _ _ (q _ (I1.hok.fresh (Nat.le_refl _)))
 refine thn (run_xmakeN (Q := fun v H2 => ∃ a d, v = .ref a ∧ H2 a = some (excX a C (some d) true) ∧ E (.ref C) (some d) (del H2 a)) rfl M F hr hb pass0 I1 r (by rw [List.nil_append, ← r.length, sizeLine_eq]; simp only [List.length_cons] at lv; omega) q) fun u s2 ⟨a, H2, eu, na, I2, a', d, ea', ea, q2⟩ => ?_
 cases ea'
 subst eu
 obtain ⟨⟨ox, fv, e1, c1, d1, f1, n1⟩, _⟩ := I2.hok a _ ea
 obtain ⟨tt, rfl⟩ := n1 rfl
 obtain ⟨hC', _⟩ := par _ I2.kIn
 refine wpAny_bind (wpAny_standAt (wpAny_pure ⟨a, tt, ox, rfl, hC', e1, c1, f1, ?_⟩))
 show wpAny _ _ (leaving _ (.ref a)) _ _ _
 refine leave_first I2.ok.frames I2.stack rfl e1 f1 rfl fun h3 T3 l t3 nT => ?_
 rw [c1, d1] at t3
 have nT2 : H2 T3 = none := I2.hok.none nT
 have old : s0.heap.get? a = none := I1.old rfl na
 have xa : ∀ b ∈ [a], b = a := fun b hb => List.mem_singleton.mp hb
 have kd : HOk P w (del H2 a) s2.heap := I2.hok.del ea
 have ud : Un (frs (cxOf (CX1 P w) P w K mg base N qual scope f cd A outer s0 H0 E).stack) [] H2 (del H2 a) s2.heap s2.heap := by
  have nx : ∀ {c : Addr} {u : HO}, (∀ ψ, u ≠ .ext ψ) → H2 c = some u → del H2 a c = some u := fun {c u} n z => by
   rw [del_ne fun y => by rw [y, ea] at z; cases z; exact n _ rfl]
   exact z
  refine ⟨fun b o z _ _ _ => z, fun b o z _ _ _ => ⟨o.slots, z⟩, fun b o z n _ => ?_, fun b o z _ => ⟨o, z⟩, fun b ys z => nx (fun _ y => nomatch y) z, fun b o v z => nx (fun _ y => nomatch y) z, fun b ps z => ⟨#[], by rw [Array.append_empty]; exact nx (fun _ y => nomatch y) z⟩⟩
  by_cases hb : b = a
  ·rw [hb]; exact del_same
  ·rw [del_ne hb]; exact n
 refine ⟨a, .ref C, some d, T3, del H2 a, rfl, I2.os, I2.bare, un_lft I2 rfl ⟨rfl, rfl⟩ ud l fun b hb => by (rw [xa b hb]; exact old), ?_, t3, old, I2.old rfl nT, del_same, ?_, q2⟩
 ·refine kd.lft l (fun b hb => ?_) fun b hb => by (rw [xa b hb]; exact del_same)
  have z := I2.stkFree b hb
  by_cases hb : b = a
  ·rw [hb]; exact del_same
  ·rw [del_ne hb]; exact z
 ·by_cases hb : T3 = a
  ·rw [hb]; exact del_same
  ·rw [del_ne hb]; exact nT2
end
end L2
set_option Elab.async false
set_option linter.all false
set_option maxRecDepth 100000
set_option maxHeartbeats 4000000
namespace L2
open PySem PySem.Spec PyProof.Rows
def Hnd (X : Cx) (hs : List ExceptHandler) (ex : Ends → St → XK) : Prop := ∀ (pins pins' : List (Addr × Obj)) (σ : St) (H : Hp) (s : Shared) (a Dc T : Addr) (dd : Option Addr) (D : Ends),
 Inv (X.held pins) pins' σ H s → Trc s.heap a (.ref Dc) dd T → Away (X.held pins) pins' H a → Away (X.held pins) pins' H T → ex D σ (.ref Dc) dd H → wpAny (model X.prog X.w) X.A (handleBy (.ref a) X.env hs) (SP X pins D) X.xe s
abbrev gone (i : Nat) (D : Ends) : Ends := { nx := fun σ2 H2 => D.nx (σ2.set i none) H2, rt := D.rt, bk := fun σ2 H2 => D.bk (σ2.set i none) H2, ct := fun σ2 H2 => D.ct (σ2.set i none) H2 }
def exC (K : PySem.W.Frag) (Cc : Addr) (i : Nat) (ts : TS) (more : Ends → St → XK) : Ends → St → XK := fun D σ cls dd H => ∃ Dc, cls = .ref Dc ∧
 ((PySem.W.exmOne K (.ref Dc) (.ref Cc) = some true ∧ ∀ a, H a = none → ts (gone i D) (σ.set i (some (.ref a))) (upd H a (excX a Dc dd false))) ∨ (PySem.W.exmOne K (.ref Dc) (.ref Cc) = some false ∧ more D σ cls dd H))
def exNo : Ends → St → XK := fun _ _ _ _ _ => False
section
variable {X : Cx} {K : PySem.W.Frag}
theorem hnd_nil : Hnd X [] exNo := fun _ _ _ _ _ _ _ _ _ _ _ _ _ _ z => z.elim
theorem hnd_cons {suite : List Stmt} {b0 : Stmt} {c n : Str} {Cc : Addr} {np hpos : Pos} {i : Nat} {ts : TS} {rest : List ExceptHandler} {more : Ends → St → XK} (hK : X.K = K) (hc : X.calm = true) (hex : X.ex = []) (hst : X.stack = X.env :: X.outer ∧ X.env.frame = some X.env.locals)
  (hg : Gl X c) (hm : X.mg c = some (.ref Cc)) (hN : X.N.Nodup) (hi : X.N[i]? = some n) (hk : X.env.scope.names.lookup n = some .local) (hs : ∀ pins v, PSs ((X.held pins).marked v) (b0 :: suite) ts) (hr : Hnd X rest more) (hdb : (c == ("__debug__" : Str)) = false := by decide) :
  Hnd X (.ExceptHandler (some (.Name c np)) (some n) (b0 :: suite) hpos :: rest) (exC K Cc i ts more) := by
 subst hK
 intro pins pins' σ H s a Dc T dd D I t A1 A2 h
 obtain ⟨Dc', e, h⟩ := h
 cases e
 obtain ⟨hp, g, dr, tk, os⟩ := s
 have Im : Inv ((X.held pins).marked (.ref a)) pins' σ H ⟨hp, g, dr, tk, os⟩ := I.marked
 have LT : PySem.W.Looks (model X.prog X.w) hp (typeOf (.ref a)) (.ref Dc) := by
  obtain ⟨oe, vs, oT, ts', t1, t3, _⟩ := t
  exact t3 ▸ (PySem.W.Looks.ld t1).andThen .now
 refine wpAny_handleBy_cons (codeAny_handlers_test (ld_glob (X := (X.held pins).marked (.ref a)) Im hg hm ?_ hdb)) (by intro z; cases z)
 rcases h with ⟨hx, h⟩ | ⟨hx, h⟩
 ·refine (PySem.W.exm_one (M := model X.prog X.w) I.kIn LT hx).here ?_
  show codeAny _ _ _ _ _
  refine codeAny_handlers_suite_as (flight_none t fun h3 k3 hT3 t3 => ?_)
  have l3 : Lft (frs (X.held pins).stack) [T] hp h3 := by
   obtain ⟨_, _, oT, tv, _, _, _, _, _, _, u7, u8, _⟩ := t
   have ne : ∀ b o, hp.get? b = some o → (∀ vs, o.data ≠ .fields vs) → b ≠ T := fun b o e nf z => by
    rw [z, u7] at e
    cases e
    exact nf _ u8
   exact ⟨fun b o e _ nx => k3 b o (fun z => nx (by simp [z])) e, fun b o e _ nf => ⟨o.slots, k3 b o (ne b o e nf) e⟩, fun b o e _ _ nf => ⟨o, k3 b o (ne b o e nf) e⟩⟩
  have I3 : Inv (X.held pins) pins' σ H ⟨h3, g, dr, tk, os⟩ := I.lft hex hst l3 fun b hb => by
   rw [List.mem_singleton.mp hb]
   exact A2
  have ok : ObjOk X.prog X.w (upd H a (excX a Dc dd false)) h3 a (excX a Dc dd false) := by
   obtain ⟨oe, vs, oT, tv, u1, u2, u3, u4, _⟩ := t3
   exact excX_ok u1 u2 u3 u4 fun z => nomatch z
  have I4 := I3.track hex A1 ok
  have hh : X.A.handled = none := I.ok.hd hc
  refine store_ok (X := X.held pins) I4 hN hi (.inl hk) (v := .ref a) (u := .ref a) rfl (fun s4 I5 => ?_) (.inr hk)
  refine wpAny_mono (hs pins (.ref a) pins' s4 _ _ _ I5.marked (h a A1.n)) (fun f s5 z => ?_) (fun _ _ z => z.elim)
  cases f with
  | next => obtain ⟨σ5, H5, I6, y⟩ := z; exact Inv.goes (X := X.held pins) (I6.unmarked hc hh) hN hi hk fun s6 I7 => ⟨_, _, I7.unheld, y⟩
  | brk => obtain ⟨σ5, H5, I6, y⟩ := z; exact Inv.goes (X := X.held pins) (I6.unmarked hc hh) hN hi hk fun s6 I7 => ⟨_, _, I7.unheld, y⟩
  | cont => obtain ⟨σ5, H5, I6, y⟩ := z; exact Inv.goes (X := X.held pins) (I6.unmarked hc hh) hN hi hk fun s6 I7 => ⟨_, _, I7.unheld, y⟩
  | ret u => obtain ⟨v, σ5, H5, I6, r, y⟩ := z; exact Inv.goes (X := X.held pins) (I6.unmarked hc hh) hN hi hk fun s6 I7 => ⟨v, _, H5, I7.unheld, r, y⟩
 ·refine (PySem.W.exm_one (M := model X.prog X.w) I.kIn LT hx).here ?_
  exact hr pins pins' σ H _ a Dc T dd D I t A1 A2 h
def tTryM (tb : (St → XK) → TS) (ex : Ends → St → XK) : TS := fun D σ H => tb (fun σ1 cls dd H1 => (∃ Dc, cls = .ref Dc) ∧ ex D σ1 cls dd H1) D σ H
theorem ps_tryM {body : List Stmt} {h0 : ExceptHandler} {hs : List ExceptHandler} {pos : Pos} {tb : (St → XK) → TS} {ex : Ends → St → XK} (hex : X.ex = []) (hst : X.stack = X.env :: X.outer ∧ X.env.frame = some X.env.locals)
  (hb : ∀ pins ex, PSs ((X.held pins).wish (XW (X.held pins) ex)) body (tb ex)) (hh : Hnd X (h0 :: hs) ex) : PS X (.Try body (h0 :: hs) [] [] pos) (tTryM tb ex) := by
 intro pins s σ H D I h
 have toSP : ∀ {pins' : List (Addr × Obj)} {f : Flow} {s' : Shared}, SP (X.held pins) pins' D f s' → SP X pins D f s' := fun {pins' f s'} q => by
  cases f with
  | next => obtain ⟨σ', H', I', z⟩ := q; exact ⟨σ', H', I'.unheld, z⟩
  | brk => obtain ⟨σ', H', I', z⟩ := q; exact ⟨σ', H', I'.unheld, z⟩
  | cont => obtain ⟨σ', H', I', z⟩ := q; exact ⟨σ', H', I'.unheld, z⟩
  | ret u => obtain ⟨v, σ', H', I', r, z⟩ := q; exact ⟨v, σ', H', I'.unheld, r, z⟩
 refine wpAny_Try_except (wpAny_mono (hb pins _ [] s σ H D (I.held.wish _) h) (fun f s1 q => ?_) fun e s1 q => ?_)
 ·have q' := toSP q.unwish
  cases f with
  | next => exact wpAny_execs_nil q'
  | brk => exact q'
  | cont => exact q'
  | ret v => exact q'
 ·obtain ⟨pins', σ1, a, cls, dd, T, H1, rfl, I1, t, A1, A2, ⟨Dc, rfl⟩, q⟩ := q
  refine note_next (outer := X.outer) (base := X.base) (by rw [← hst.1]; exact I1.ok.frames) (by rw [← hst.1]; exact I1.stack) hst.2 t fun h2 T2 l t2 nT => ?_
  have l' : Lft (frs (X.held pins).stack) [a, T] s1.heap h2 := by
   show Lft (frs X.stack) [a, T] s1.heap h2
   rw [hst.1]
   exact l
  have I2 : Inv (X.held pins) pins' σ1 H1 { s1 with heap := h2 } := I1.lft hex hst l' fun b hb => by
   simp only [List.mem_cons, List.not_mem_nil, or_false] at hb
   rcases hb with rfl | rfl
   ·exact A1
   ·exact A2
  exact hh pins pins' σ1 H1 _ a Dc T2 dd D I2 t2 A1 (I1.away hex nT) q
end
end L2
set_option Elab.async false
set_option linter.all false
set_option maxRecDepth 100000
set_option maxHeartbeats 4000000
namespace L2
open PySem PySem.Spec PyProof.Rows
end L2
set_option Elab.async false
set_option linter.all false
set_option maxRecDepth 100000
set_option maxHeartbeats 4000000
namespace L2
open PySem PySem.Spec PyProof.Rows PySem.W
section
variable {K : PySem.W.Frag} {D : Addr}
def xisB (K : PySem.W.Frag) (D : Addr) : Bool := (clsIn K D).isSome && (findIn K (.ref D) "__getattribute__" == some (some (.builtin "BaseException.__getattribute__")) && (findIn K (.ref D) "__getattr__" == some none &&
 (findIn K (.ref D) "__class__" == some (some (.builtin "object.__class__")) && (specialIn K (.builtin "object.__class__") "__get__" == some (some (.builtin "getset_descriptor.__get__")) && (takesIn K (.builtin "object.__class__") == some true &&
 (mroIn K D (.type "object") == some true && mroIn K D (.type "BaseException") == some true))))))
theorem xis_of (h : xisB K D = true) : XIs K D := by
 unfold xisB at h
 simp only [Bool.and_eq_true, beq_iff_eq] at h
 obtain ⟨h1, h2, h3, h4, h5, h6, h7, h8⟩ := h
 exact ⟨h1, h2, h3, h4, h5, h6, h7, h8⟩
def xatB (K : PySem.W.Frag) (D : Addr) (fs : List Str) : Bool := findIn K (.ref D) "__setattr__" == some (some (.builtin "object.__setattr__")) && ((clsIn K D).any (fun cd => onlyExc cd.mro) && (hasDictIn K D && fs.all fun f => findIn K (.ref D) f == some none))
theorem xset_of {fs : List Str} {f : Str} (h : xatB K D fs = true) (m : f ∈ fs) : XSet K D f := by
 unfold xatB at h
 simp only [Bool.and_eq_true, beq_iff_eq] at h
 obtain ⟨h1, h2, h3, h4⟩ := h
 exact ⟨h1, h2, beq_iff_eq.mp (List.all_eq_true.mp h4 f m), h3⟩
theorem xget_of {fs : List Str} {f : Str} (y : XIs K D) (h : xatB K D fs = true) (m : f ∈ fs) : XGet K D f := let s := xset_of h m; ⟨y, s.no, s.hd⟩
end
end L2
set_option Elab.async false
set_option linter.all false
set_option maxRecDepth 100000
set_option maxHeartbeats 4000000
namespace L2
open PySem PySem.Spec PyProof.Rows
section
variable {X : Cx} {K : PySem.W.Frag}
open Classical in
end
end L2
set_option Elab.async false
set_option linter.all false
set_option maxRecDepth 100000
set_option maxHeartbeats 4000000
namespace L2
open PySem PySem.Spec PyProof.Rows
section
variable {X : Cx} {K : PySem.W.Frag}
end
end L2
set_option Elab.async false
set_option linter.all false
set_option maxRecDepth 100000
set_option maxHeartbeats 4000000
namespace L2
open PySem PySem.Spec PyProof.Rows
theorem vals_texts : ∀ {us : List Value} {ss : List Str}, StrsAre us ss → Vals (ss.map V.str) us
 | _, _, .nil => .nil
 | _, _, .cons y t r => .cons ⟨t, rfl⟩ (vals_texts r)
section
variable {X : Cx} {K : PySem.W.Frag}
theorem texts_len {us : List Value} {ns : List Str} (h : StrsAre us ns) : us.length = ns.length := by
 have := (vals_texts h).length
 rw [List.length_map] at this
 exact this.symm
end
end L2
set_option Elab.async false
set_option linter.all false
set_option maxRecDepth 100000
set_option maxHeartbeats 4000000
namespace L2
open PySem PySem.Spec PyProof.Rows
section
variable {prog : Program} {w : World} {A : Around} {E : Value → Shared → Prop} {s : Shared} {T : String} {r d : Addr} {n : Nat} {P : Nat → Value → Prop} {OK : Heap → Prop}
theorem collect_src {Q : List Value → Shared → Prop} (K : PySem.W.KdlSrc prog w T r d n P OK) (hh : A.handled = none) (hok : OK s.heap) (hn : n ≤ sizeLine)
  (hQ : ∀ h' tk acc, s.heap.objs.size ≤ h'.objs.size → (∀ b o, s.heap.get? b = some o → h'.get? b = some o) → ItemsOf P acc n → Q acc.toList { s with heap := h', toks := tk }) : wpAny (model prog w) A (collect (.ref r)) Q E s := by
 have hlt := K.there _ hok
 unfold collect
 refine wpAny_bind (wpAny_runValue (codeAny_builtin F.entry_proto_collect ?_))
 rw [Around.under_plainId F.plain_proto_collect _]
 show wpAny _ A.in1 (newList [] >>= fun l => again (.builtin "list.__iadd__" ⟨[l, .ref r], []⟩)) _ _ s
 refine wpAny_bind (wpAny_newObj_type ?_)
 refine wpAny_pure ⟨plainId_quiet F.plain_list_iadd _, codeAny_builtin F.entry_list_iadd ?_⟩
 rw [Around.under_plainId F.plain_list_iadd _]
 have hS : (s.heap.push { cls := .type "list", data := .seq ([] : List Value).toArray }).get? s.heap.objs.size = some { cls := .type "list", data := .seq #[] } := Heap.get?_push_size _ rfl
 show wpAny _ A.in1 (Builtin.List.listExtendWith (.ref s.heap.objs.size) (.ref r) (.ref s.heap.objs.size)) _ _ _
 let R : Result → Shared → Prop := fun res s' => ∃ (h' : Heap) (tk : Nat) (acc : Array Value) (c : Nat), res = .ok (.ret (.ref s.heap.objs.size)) ∧ s' = { s with heap := h', toks := tk } ∧ (∀ b o, s.heap.get? b = some o → h'.get? b = some o) ∧ h'.get? s.heap.objs.size = some { cls := .type "list", dict := none, data := .seq acc c, slots := #[] } ∧ ItemsOf P acc n
 refine wpAny_mono (PySem.W.kdl_extend (A := A) (R := R) (s := { s with heap := s.heap.push { cls := .type "list", data := .seq ([] : List Value).toArray } }) K hh (K.keep _ _ hok fun b _ o e => Heap.get?_push_of_some _ e) s.heap.objs.size (Nat.ne_of_gt hlt.1) (Nat.ne_of_gt hlt.2) (.ref s.heap.objs.size) _ hS (fun h' tk acc' c' hk hS' hacc => ⟨h', tk, acc', c', rfl, rfl, fun b o e => hk b o (Nat.ne_of_lt (Heap.lt_size e)) (Heap.get?_push_of_some _ e), hS', hacc⟩) hn) (fun f s' hf => ?_) (fun e s' he => ?_)
 ·cases f with
  | done fl =>
   obtain ⟨h', tk, acc, c, e, rfl, kp, hS', it⟩ := hf
   cases e
   exact wpAny_bind (wpAny_load hS' (wpAny_pure (hQ h' tk acc (Nat.le_of_lt (Heap.lt_size hS')) kp it)))
  | again c' =>
   refine ⟨hf.1, codeAny_mono hf.2 fun res s2 hr => ?_⟩
   obtain ⟨h', tk, acc, c, e, rfl, kp, hS', it⟩ := hr
   cases e
   exact wpAny_bind (wpAny_load hS' (wpAny_pure (hQ h' tk acc (Nat.le_of_lt (Heap.lt_size hS')) kp it)))
 ·obtain ⟨_, _, _, _, z, _⟩ := he
  cases z
theorem sortedHeap_keeps {h : Heap} {vs : List Value} {out : Array Value} {b : Addr} {o : Obj} (hb : h.get? b = some o) : (sortedHeap (h.push (seqObj "list" vs.toArray 0)) h.objs.size vs out).get? b = some o := by
 have hlt := Heap.lt_size hb
 rw [sortedHeap_old (Nat.ne_of_lt hlt) (by rw [size_push']; exact Nat.lt_succ_of_lt hlt)]
 exact Heap.get?_push_of_some _ hb
theorem sorted_strs_src {Q : Value → Shared → Prop} {ss : List Str} (K : PySem.W.KdlSrc prog w T r d n P OK) (hh : A.handled = none) (hok : OK s.heap) (hn : n ≤ sizeLine) (hI : ∀ acc : Array Value, ItemsOf P acc n → StrsAre acc.toList ss) (h64 : ss.length < 64)
  (h : ∀ (a : Addr) (h' : Heap) (tk e : Nat) (out : Array Value) (ms : List Str), s.heap.objs.size ≤ a → (∀ b o, s.heap.get? b = some o → h'.get? b = some o) → h'.get? a = some (seqObj "list" out e) → StrsAre out.toList ms → ms.Perm ss → sortedS ms = true → Q (.ref a) { s with heap := h', toks := tk }) :
  wpAny (model prog w) A (call (.builtin "sorted") [.ref r]) Q E s := by
 refine Calls.call_function_entry kind_sorted plain_sorted entry_sorted (args_sorted1 _) ?_
 unfold Builtin.«sorted»
 refine wpAny_bind (m := checkCount "sorted" 1 1 _) (wpAny_pure ?_)
 refine wpAny_bind (collect_src K hh hok hn fun h1 tk acc sz kp it => ?_)
 have hA := hI acc it
 have l64 : acc.toList.length < 64 := by rw [texts_len hA]; exact h64
 refine wpAny_bind (wpAny_newList ?_)
 have hoL : (h1.push (seqObj "list" acc.toList.toArray 0)).get? h1.objs.size = some (seqObj "list" acc.toList.toArray 0) := Heap.get?_push_size _ rfl
 refine wpAny_bind (wpAny_holding (wpAny_call_entry slot_list_sort ⟨_, hoL, rfl⟩ entry_list_sort (list_sort_treeK strKind_oneLt hoL hA.keysOf (fun v₁ v₂ rest e => keyKind_strs (by rw [← e]; exact hA)) l64 fun st' hp hs => ⟨_, rfl, ?_⟩) (args_list_sort _)))
 obtain ⟨ms, a1, a2, a3⟩ := sorted_out_str hA hp hs
 obtain ⟨e, he⟩ := sortedHeap_at (out := (arrOf st').map (·.2)) hoL
 exact wpAny_pure ⟨_, rfl, h h1.objs.size _ tk e _ ms sz (fun b o z => sortedHeap_keeps (kp b o z)) he a1 a2 a3⟩
end
end L2
set_option Elab.async false
set_option linter.all false
set_option maxRecDepth 100000
set_option maxHeartbeats 4000000
namespace L2
open PySem PySem.Spec PyProof.Rows
section
variable {X : Cx}
theorem keys_vals {kvs : List (Key × V)} {vs : List (Key × Value)} (h : KV kvs vs) : vs.map (·.1) = kvs.map (·.1) := by
 induction h with
 | nil => rfl
 | cons r _ ih => rw [List.map_cons, List.map_cons, ih, r.1]
theorem texts_items {vs : List (Key × Value)} : ∀ {us : List Value} {ns : List Str}, vs.map (·.1) = ns.map (Sum.inr : Str → Key) → us.length = vs.length → (∀ (i : Nat) (v : Value), us[i]? = some v → ∃ k x, vs[i]? = some (k, x) ∧ keyIs k v = true) → StrsAre us ns := by
 induction vs with
 | nil =>
  intro us ns e l _
  cases ns with
  | nil => cases us with
   | nil => exact .nil
   | cons _ _ => cases l
  | cons _ _ => cases e
 | cons p vs ih =>
  intro us ns e l h
  cases ns with
  | nil => cases e
  | cons n ns =>
   cases us with
   | nil => cases l
   | cons u us =>
    rw [List.map_cons, List.map_cons] at e
    injection e with e1 e2
    obtain ⟨k, x, ek, hk⟩ := h 0 u rfl
    have ek : p = (k, x) := Option.some.inj ek
    rw [ek] at e1
    have e1 : k = Sum.inr n := e1
    subst e1
    rcases keyIs_shape hk with ⟨i, t, a, rfl⟩ | ⟨y, t, a, rfl⟩
    ·cases a
    ·cases a
     exact .cons n t (ih e2 (Nat.succ.inj l) fun i v hv => h (i + 1) v hv)
theorem call_sortedDS (hc : X.calm = true) : CallR X (.builtin "sorted") (fun xs H Q => ∃ (p : Addr) (kvs : List (Key × V)) (ns : List Str), xs = [.ref p] ∧ H p = some (.dK kvs) ∧ kvs.map (·.1) = ns.map (Sum.inr : Str → Key) ∧ ns.length < 64 ∧ ∀ (l : Addr) (ms : List Str), H l = none → ms.Perm ns → sortedS ms = true → Q (.ref l) (upd H l (.lst (ms.map V.str)))) := by
 intro pins s σ H xs us Q I r h
 obtain ⟨p, kvs, ns, rfl, hp, ek, h64, q⟩ := h
 obtain ⟨u, rfl, ru⟩ := vals1 r
 cases ru
 obtain ⟨hz, lo, vs, kv, hd0⟩ := I.hok p _ hp
 obtain ⟨ep, hd⟩ := hd0.dictAt
 have lkv : vs.length ≤ sizeLine := by have := Paired.length kv; omega
 have ev := keys_vals kv
 refine sorted_strs_src (ss := ns) (PySem.W.kdl_dict (knd := mixKind X.prog X.w) (ep := ep) lo) (I.ok.hd hc) hd lkv (fun acc it => ?_) h64 fun a h' tk e out ms sz kp he hm pm so => ?_
 ·exact texts_items (ev.trans ek) (by rw [Array.length_toList]; exact it.1) fun i v hv => it.2 i v (by rw [← Array.getElem?_toList]; exact hv)
 ·have lm := texts_len hm
  have lp := pm.length_eq
  refine ⟨.ref a, _, I.laid (t' := tk) (o := .lst (ms.map V.str)) kp sz ?_, rfl, q _ ms (I.hok.fresh sz) pm so⟩
  exact ⟨by rw [List.length_map]; exact small_line (by omega), out.toList, e, vals_texts hm, he⟩
end
end L2
set_option Elab.async false
set_option linter.all false
set_option maxRecDepth 100000
set_option maxHeartbeats 4000000
namespace L2
open PySem PySem.Spec PyProof.Rows
theorem orStandIn_led (t : SetTable) (n : Nat) : (t.orStandIn n).led = t.led ∧ ((t.orStandIn n).plain = true → t.plain = true) := by
 unfold SetTable.orStandIn
 split
 ·exact ⟨rfl, id⟩
 ·exact ⟨rfl, fun z => nomatch z⟩
theorem layNew_led (t : SetTable) (es : Array (Int × Value)) (h : Int) (x : Value) : (layNew t es h x).2.1.led = t.led ∧ ((layNew t es h x).2.1.plain = true → t.plain = true) := by
 unfold layNew
 split
 ·rename_i slot wd _
  exact orStandIn_led (t.put slot).1 _
 ·exact ⟨rfl, fun z => nomatch z⟩
theorem relayAll_led (t : SetTable) (es : Array (Int × Value)) (n : Nat) : (relayAll t es n).2.1.led = t.led ∧ ((relayAll t es n).2.1.plain = true → t.plain = true) := by
 unfold relayAll
 split
 ·rename_i t' order e
  have el : t'.led = t.led ∧ t'.plain = t.plain := by
   unfold SetTable.relaid SetTable.laid at e
   cases hl : SetTable.layClean (SetTable.sizeAbove n - 1) (es.map (·.1)) with
   | none => rw [hl] at e; cases e
   | some owner =>
    rw [hl] at e
    have e := Option.some.inj e
    rw [← (Prod.mk.inj e).1]
    exact ⟨rfl, rfl⟩
  dsimp only
  split
  ·exact ⟨el.1, fun z => by rw [← el.2]; exact z⟩
  ·exact ⟨rfl, fun z => nomatch z⟩
 ·exact ⟨rfl, fun z => nomatch z⟩
def ledBy (w : World) : Bool := !(w.params.followText "set-order")
structure TxSet (P : Program) (w : World) (h : Heap) (a : Addr) (ks : List Str) : Prop where
 ex : ∃ (o : Obj) (es : Array (Int × Value)) (ep : Nat) (t : SetTable) (ord : List Str), h.get? a = some o ∧ o.ExactSet ∧ o.data = .set es ep t ∧ ElemsOf (PySem.strKind P w) es.toList ∧ StrsAre (es.toList.map (·.2)) ord ∧ ord.Perm ks ∧ es.size < scanBound ∧ t.fits es.size = true ∧ t.led = ledBy w ∧ (ks ≠ [] → t.plain = false)
 nd : ks.Nodup
theorem str_is {P : Program} {w : World} {k : Str} {v : Value} (h : (PySem.strKind P w).is k v = true) : ∃ t, v = .str k t := Value.isStrOf_shape h
theorem is_str {P : Program} {w : World} (k : Str) (t : Tok) : (PySem.strKind P w).is k (.str k t) = true := by
 show Value.isStrOf k (.str k t) = true
 simp [Value.isStrOf]
theorem strs_perm : ∀ {vs vs' : List Value}, vs.Perm vs' → ∀ {ks : List Str}, StrsAre vs' ks → ∃ ks', StrsAre vs ks' ∧ ks'.Perm ks := by
 intro vs vs' p
 induction p with
 | nil => intro ks h; exact ⟨ks, h, .refl _⟩
 | cons x _ ih =>
  intro ks h
  cases h with
  | cons k t r =>
   obtain ⟨ks', h1, h2⟩ := ih r
   exact ⟨k :: ks', .cons k t h1, h2.cons k⟩
 | swap x y l =>
  intro ks h
  cases h with
  | cons k t r =>
   cases r with
   | cons k2 t2 r2 => exact ⟨k2 :: k :: _, .cons k2 t2 (.cons k t r2), .swap k k2 _⟩
 | trans _ _ ih1 ih2 =>
  intro ks h
  obtain ⟨k1, a1, a2⟩ := ih2 h
  obtain ⟨k2, b1, b2⟩ := ih1 a1
  exact ⟨k2, b1, b2.trans a2⟩
theorem strs_snoc : ∀ {vs : List Value} {ks : List Str} (k : Str) (t : Tok), StrsAre vs ks → StrsAre (vs ++ [.str k t]) (ks ++ [k])
 | _, _, k, t, .nil => .cons k t .nil
 | _, _, k, t, .cons k' t' r => .cons k' t' (strs_snoc k t r)
section
variable {P : Program} {w : World} {A : Around} {E : Value → Shared → Prop} {s : Shared}
theorem tx_store {h : Heap} {a : Addr} {o : Obj} {es es' : Array (Int × Value)} {ep : Nat} {t t' : SetTable} {ks ord : List Str} (ho : h.get? a = some o) (hex : o.ExactSet) (hd : o.data = .set es ep t) (hel : ElemsOf (PySem.strKind P w) es'.toList) (ha : StrsAre (es'.toList.map (·.2)) ord) (hp : ord.Perm ks) (nd : ks.Nodup)
  (hb : es'.size < scanBound) (hf : t'.fits es'.size = true) (hl : t'.led = ledBy w) (hpl : ks ≠ [] → t'.plain = false) :
  (h.update a (Obj.putSet es' t')).get? a = some { o with data := .set es' (ep + 1) t' } ∧ TxSet P w (h.update a (Obj.putSet es' t')) a ks := by
 have hg : (h.update a (Obj.putSet es' t')).get? a = some { o with data := .set es' (ep + 1) t' } := by
  have := Heap.get?_update_self (Obj.putSet es' t') ho (by rw [putSet_of es' t' hd]; rfl)
  rw [putSet_of es' t' hd] at this; exact this
 exact ⟨hg, ⟨_, es', ep + 1, t', ord, hg, hex, rfl, hel, ha, hp, hb, hf, hl, hpl⟩, nd⟩
theorem tx_tail {g : Bool → Sem Unit} (hg : ∀ (b : Bool) (s₁ : Shared) (Q' : Unit → Shared → Prop), Q' () s₁ → wpAny (model P w) A (g b) Q' E s₁)
  {a : Addr} {o : Obj} {es es1 : Array (Int × Value)} {ep : Nat} {t t2 : SetTable} {ks ord : List Str} (ho : s.heap.get? a = some o) (hex : o.ExactSet) (hd : o.data = .set es ep t) (hel1 : ElemsOf (PySem.strKind P w) es1.toList) (ha : StrsAre (es1.toList.map (·.2)) ord) (hp : ord.Perm ks) (nd : ks.Nodup)
  (hb1 : es1.size < scanBound) (hf2 : t2.fits es1.size = true) (hl : t2.led = ledBy w) (hpl : t2.plain = false) {wasDummy : Bool} {R : Option Bool → Shared → Prop}
  (h : ∀ h', Heap.SameBut a s.heap h' → TxSet P w h' a ks → R (some true) { s with heap := h' }) :
  wpAny (model P w) A (do
    storeSet a es1 t2
    if (!wasDummy && t2.tooFull) = true then do
      g (relayAll t2 es1 (SetTable.grown es1.size)).2.2
      storeSet a (relayAll t2 es1 (SetTable.grown es1.size)).1 (relayAll t2 es1 (SetTable.grown es1.size)).2.1
      pure (some true)
     else pure (some true)) R E s := by
 refine wpAny_bind (wpAny_storeSet_of ho hd ?_ (fits_of_scanBound hb1))
 obtain ⟨ho1, hS1⟩ := tx_store (P := P) (w := w) ho hex hd hel1 ha hp nd hb1 hf2 hl (fun _ => hpl)
 have hsb1 := Heap.SameBut.update s.heap a (Obj.putSet es1 t2)
 split
 ·have pp := relayAll_perm t2 es1 (SetTable.grown es1.size)
  have hfr := relayAll_fits t2 es1 (SetTable.grown es1.size)
  obtain ⟨fl, fp⟩ := relayAll_led t2 es1 (SetTable.grown es1.size)
  generalize hRl : relayAll t2 es1 (SetTable.grown es1.size) = Rl at pp hfr fl fp ⊢
  obtain ⟨es2, t3, gave2⟩ := Rl
  dsimp only at pp hfr fl fp ⊢
  have hel2 : ElemsOf (PySem.strKind P w) es2.toList := hel1.perm pp
  obtain ⟨ord2, ha2, hp2⟩ := strs_perm (pp.map (·.2)) ha
  have hsz : es2.size = es1.size := by rw [← Array.length_toList, pp.length_eq, Array.length_toList]
  have hb2 : es2.size < scanBound := by rw [hsz]; exact hb1
  refine wpAny_bind (hg _ _ _ ?_)
  refine wpAny_bind (wpAny_storeSet_of ho1 rfl ?_ (fits_of_scanBound hb2))
  have pl3 : t3.plain = false := by
   cases e : t3.plain
   ·rfl
   ·rw [fp e] at hpl; cases hpl
  obtain ⟨_, hS2⟩ := tx_store (P := P) (w := w) ho1 hex rfl hel2 ha2 (hp2.trans hp) nd hb2 hfr (fl.trans hl) (fun _ => pl3)
  exact wpAny_pure (h _ (hsb1.trans (Heap.SameBut.update _ a _)) hS2)
 ·exact wpAny_pure (h _ hsb1 hS1)
theorem strs_mem : ∀ {vs : List Value} {ks : List Str}, StrsAre vs ks → ∀ k, k ∈ ks ↔ ∃ t, Value.str k t ∈ vs
 | _, _, .nil, k => ⟨(fun h => nomatch h), (fun ⟨_, h⟩ => nomatch h)⟩
 | _, _, .cons k' t' r, k => by
  rw [List.mem_cons, strs_mem r k]
  constructor
  ·rintro (rfl | ⟨t, h⟩)
   ·exact ⟨t', List.mem_cons_self⟩
   ·exact ⟨t, List.mem_cons_of_mem _ h⟩
  ·rintro ⟨t, h⟩
   rcases List.mem_cons.mp h with e | h
   ·cases e
    exact .inl rfl
   ·exact .inr ⟨t, h⟩
theorem tx_add {a : Addr} {ks : List Str} {k : Str} {tok : Tok} {Q : Bool → Shared → Prop} (hS : TxSet P w s.heap a ks) (hroom : ks.length + 1 < scanBound)
  (h : ∀ b h', Heap.SameBut a s.heap h' → TxSet P w h' a (if k ∈ ks then ks else ks ++ [k]) → Q b { s with heap := h' }) :
  wpAny (model P w) A (setAddHashed a (.str k tok) ((PySem.strKind P w).hash k)) Q E s := by
 obtain ⟨⟨o, es, ep, t, ord, ho, hex, hd, hel, ha, hp, hb, hf, hl, hpl⟩, nd⟩ := hS
 have hkey := is_str (P := P) (w := w) k tok
 have hsc : (Value.str k tok).scannable = true := rfl
 have lo : es.size = ks.length := by
  have l1 := texts_len ha
  rw [List.length_map, Array.length_toList] at l1
  rw [l1, hp.length_eq]
 have hmem : k ∈ ks ↔ ∃ e ∈ es.toList, (PySem.strKind P w).is k e.2 = true := by
  rw [← hp.mem_iff, strs_mem ha k]
  constructor
  ·rintro ⟨t, ht⟩
   obtain ⟨e, he, ee⟩ := List.mem_map.mp ht
   exact ⟨e, he, by rw [ee]; exact is_str k t⟩
  ·rintro ⟨e, he, hk⟩
   obtain ⟨t, et⟩ := str_is hk
   exact ⟨t, List.mem_map.mpr ⟨e, he, et⟩⟩
 unfold setAddHashed setAddHashedIn
 refine wpAny_holding (wpAny_bind (wpAny_setState_of ho hd hf ?_))
 dsimp only
 rw [byScan_of hsc hb hel]
 simp only [↓reduceIte]
 unfold setAddByScan
 refine wpAny_bind ?_
 refine wpAny_bind (wpAny_rule ?_)
 refine wpAny_bind (wpAny_setScan_of hkey ho hd hf hel ?_)
 cases hr : List.findIdx? (fun e => (PySem.strKind P w).is k e.2) es.toList with
 | some j =>
  dsimp only
  obtain ⟨hj, hpj, _⟩ := List.findIdx?_eq_some_iff_getElem.mp hr
  have hk : k ∈ ks := hmem.mpr ⟨es.toList[j], List.getElem_mem hj, hpj⟩
  refine wpAny_pure (wpAny_pure ?_)
  have e : s = { s with heap := s.heap } := by cases s; rfl
  have := h false s.heap (Heap.SameBut.refl a s.heap) (by rw [if_pos hk]; exact ⟨⟨o, es, ep, t, ord, ho, hex, hd, hel, ha, hp, hb, hf, hl, hpl⟩, nd⟩)
  rw [e]
  exact this
 | none =>
  dsimp only
  have hk : k ∉ ks := fun z => by
   obtain ⟨e, he, hpe⟩ := hmem.mp z
   have := List.findIdx?_eq_none_iff.mp hr e he
   rw [hpe] at this
   exact Bool.noConfusion this
  have hgw : ∀ (b : Bool) {s₁ : Shared} {Q' : Unit → Shared → Prop}, Q' () s₁ → wpAny (model P w) A (match b with | true => rule "set.scan.the-table-gave-way" | false => pure ()) Q' E s₁ :=
   fun b s₁ Q' hq => by cases b <;> first | exact wpAny_pure hq | exact wpAny_rule hq
  have hperm := layNew_perm t es ((PySem.strKind P w).hash k) (.str k tok)
  have hfits := layNew_fits t es ((PySem.strKind P w).hash k) (.str k tok)
  obtain ⟨fl, fp⟩ := layNew_led t es ((PySem.strKind P w).hash k) (.str k tok)
  generalize hL : layNew t es ((PySem.strKind P w).hash k) (.str k tok) = L at hperm hfits fl fp ⊢
  obtain ⟨es1, t1, wasDummy, gave⟩ := L
  dsimp only at hperm hfits fl fp ⊢
  rw [Array.toList_push] at hperm
  have hel1 : ElemsOf (PySem.strKind P w) es1.toList := (hel.push hkey hsc).perm hperm
  have ha1 : StrsAre ((es.toList ++ [((PySem.strKind P w).hash k, Value.str k tok)]).map (·.2)) (ord ++ [k]) := by
   rw [List.map_append]
   exact strs_snoc k tok ha
  obtain ⟨ord1, hb1, hp1⟩ := strs_perm (hperm.map (·.2)) ha1
  have hz : es1.size < scanBound := by rw [← Array.length_toList, hperm.length_eq, List.length_append, Array.length_toList, lo]; exact hroom
  have pk : ord1.Perm (ks ++ [k]) := hp1.trans (hp.append_right [k])
  have ndk : (ks ++ [k]).Nodup := nodup_snoc.mpr ⟨nd, hk⟩
  have fin : ∀ h', Heap.SameBut a s.heap h' → TxSet P w h' a (ks ++ [k]) → Q true { s with heap := h' } := fun h' sb hT => h true h' sb (by rw [if_neg hk]; exact hT)
  refine wpAny_bind (hgw _ ?_)
  split
  ·refine wpAny_bind ?_
   rw [hashByValue_scannable 8 hsc]
   refine wpAny_pure ?_
   show wpAny (model P w) A _ _ _ _
   rw [if_neg (show ¬ plainKind (Value.str k tok) = true from fun z => nomatch z)]
   refine tx_tail ?_ ho hex hd hel1 hb1 pk ndk hz (SetTable.fits_plain_off hfits) (fl.trans hl) rfl ?_
   ·intro b s₁ Q' hq; cases b <;> first | exact wpAny_pure hq | exact wpAny_rule hq
   ·intro h' hsb hT; dsimp only; exact wpAny_pure (fin h' hsb hT)
  ·rename_i hpn
   refine wpAny_bind (wpAny_pure ?_)
   simp only [↓reduceIte]
   refine tx_tail ?_ ho hex hd hel1 hb1 pk ndk hz hfits (fl.trans hl) (by simpa using hpn) ?_
   ·intro b s₁ Q' hq; cases b <;> first | exact wpAny_pure hq | exact wpAny_rule hq
   ·intro h' hsb hT; dsimp only; exact wpAny_pure (fin h' hsb hT)
end
end L2
set_option Elab.async false
set_option linter.all false
set_option maxRecDepth 100000
set_option maxHeartbeats 4000000
namespace L2
open PySem PySem.Spec PyProof.Rows
section
variable {P : Program} {w : World} {A : Around} {E : Value → Shared → Prop} {s : Shared}
theorem code_set_newL (a : Value) {Q₁ : Value → Shared → Prop} (h : Q₁ (.ref s.heap.objs.size) { s with heap := s.heap.push (set0 (ledBy w)) }) :
  codeAny (model P w) A (.call (.builtin "set.__new__") ⟨[.type "set", a], []⟩) (wants Q₁ E) s := by
 refine codeAny_of_tree ?_
 show wpAny _ A.in1 (do checkBuiltinCall "set.__new__" ⟨[.type "set", a], []⟩; again (.builtin "set.__new__" ⟨[.type "set", a], []⟩)) _ _ s
 refine wpAny_bind (wpAny_of_eq (F.newCall_set_1 a) (wpAny_pure ⟨plainId_quiet F.plain_set_new _, codeAny_builtin F.entry_set_new ?_⟩))
 rw [Around.under_plainId F.plain_set_new _]
 unfold Builtin.«set.__new__» Builtin.Frozenset.newClass
 have hsub := sub_set_self
 obtain ⟨hp, g, d, tk, os⟩ := s
 dsimp only
 wp_walk
 refine wpAny_askSetting (wpAny_pure ?_)
 dsimp only
 simp only [newObj]
 refine wpAny_bind (wpAny_alloc (wpAny_pure ?_))
 exact wpAny_pure h
theorem call_set_ofL {T : String} {l : Addr} {n : Nat} {Pv : Nat → Value → Prop} {Q : Value → Shared → Prop} (hh : A.handled = none)
  (f1 : isSubtype (.type T) (.type "set") = pure false) (f2 : isSubtype (.type T) (.type "frozenset") = pure false) (f3 : (Value.type T == Value.type "dict") = false)
  (ty : ∀ s' : Shared, (∀ b o, s.heap.get? b = some o → s'.heap.get? b = some o) → s'.TypeIs (.ref l) T) (lt : l < s.heap.objs.size)
  (it : ∀ (A' : Around) (s' : Shared), A'.handled = none → (∀ b o, s.heap.get? b = some o → s'.heap.get? b = some o) → ∃ (oI : Obj) (St : Nat → Heap → Prop),
   (∀ (A2 : Around) (E2 : Value → Shared → Prop) (Q2 : Value → Shared → Prop), Q2 (.ref s'.heap.objs.size) { s' with heap := s'.heap.push oI } → wpAny (model P w) A2 (pyIter (.ref l)) Q2 E2 s') ∧
    Walks P w A' s'.heap.objs.size [s'.heap.objs.size, l] [s'.heap.objs.size] n Pv St ∧ St 0 (s'.heap.push oI))
  (Good : Nat → Heap → Prop) (g0 : ∀ (oI : Obj), Good 0 ((s.heap.push (set0 (ledBy w))).push oI))
  (g1 : ∀ i h h', Good i h → (∀ b o, b ≠ s.heap.objs.size + 1 → h.get? b = some o → h'.get? b = some o) → Good i h')
  (g2 : ∀ (i : Nat) (s2 : Shared) (v : Value) (Q : Bool → Shared → Prop) (E' : Value → Shared → Prop), i < n → Pv i v → Good i s2.heap → (∀ b h' tk, Heap.SameBut s.heap.objs.size s2.heap h' → Good (i + 1) h' → Q b { s2 with heap := h', toks := tk }) →
   wpAny (model P w) A.in1.in1.in1 (setAdd s.heap.objs.size v) Q E' s2)
  (q : ∀ h' tk, (∀ b o, s.heap.get? b = some o → h'.get? b = some o) → Good n h' → Q (.ref s.heap.objs.size) { s with heap := h', toks := tk }) :
  wpAny (model P w) A (call (.type "set") [.ref l]) Q E s := by
 have cs := F.called_set
 obtain ⟨c, tl, mro⟩ := cs.mro
 have made := cs.made
 have sub := cs.sub
 refine wpAny_call (codeAny_of_tree ?_)
 show wpAny _ _ (callAny (.type "set") _) _ _ _
 refine wpAny_pure ⟨Code.quiet_builtin _ (by decide +kernel), codeAny_builtin F.entry_type_call ?_⟩
 rw [Around.under_plain (weight_type_call_type "set" [.ref l] []) rfl]
 have c1 := cs.notType
 have c2 := cs.canCreate
 have c3 := F.typeCall_set_1 (.ref l)
 repeat (any_goals (first | assumption | wp_step))
 refine codeAny_mono (code_set_newL (.ref l) (E := E) (Q₁ := fun x s₁ => x = .ref s.heap.objs.size ∧ s₁ = { s with heap := s.heap.push (set0 (ledBy w)) }) ⟨rfl, rfl⟩) fun r s₁ hr => ?_
 cases r with
 | error e => exact hr
 | ok fl =>
  cases fl with
  | ret x =>
   obtain ⟨rfl, rfl⟩ := hr
   generalize hled : ledBy w = led at g0 ⊢
   have hS : (s.heap.push (set0 led)).get? s.heap.objs.size = some (set0 led) := Heap.get?_push_size _ rfl
   have tS : Shared.TypeIs { s with heap := s.heap.push (set0 led) } (.ref s.heap.objs.size) "set" := ⟨_, hS, rfl⟩
   have i1 := cs.init.lookup
   have i2 := cs.init.bind (.ref s.heap.objs.size)
   repeat (any_goals (first | assumption | wp_step))
   refine codeAny_mono (codeAny_call_builtin (R := wants (fun r s₂ => r = .none ∧ ∃ h' tk, s₂ = { s with heap := h', toks := tk } ∧ Good n h' ∧ (∀ b o, s.heap.get? b = some o → h'.get? b = some o)) E)
    cs.init.plain F.entry_set_init (check_set_init_1 tS ?_)) fun r₂ s₂ hr₂ => ?_
   ·have ext : ∀ b o, s.heap.get? b = some o → (s.heap.push (set0 led)).get? b = some o := fun b o e => Heap.get?_push_of_some _ e
    have tl := ty { s with heap := s.heap.push (set0 led) } ext
    have h3 : A.in1.in1.in1.handled = none := by simp [hh]
    obtain ⟨oI, St, go, W, st⟩ := it A.in1.in1.in1 { s with heap := s.heap.push (set0 led) } h3 ext
    have sz : (s.heap.push (set0 led)).objs.size = s.heap.objs.size + 1 := Heap.size_push ..
    unfold Builtin.«set.__init__» noKeywords Builtin.Frozenset.updateFrom
    generalize hPI : pyIter = PI
    wp_walk
    subst hPI
    refine go _ _ _ ?_
    refine wpAny_bind (wpAny_runValue ?_)
    dsimp only at W st
    refine loop_setB (A := A.in1.in1) W (fun z => ?_) Good (fun i h h' g k => g1 i h h' g fun b o hb e => k b o (by rw [sz]; exact hb) e) g2 (n - 0) 0 _ (by omega) (Nat.zero_le _) st (g0 oI) fun h' tk kp good => ?_
    ·rcases List.mem_cons.mp z with z | z
     ·rw [sz] at z
      exact absurd z (Nat.ne_of_lt (Nat.lt_succ_self _))
     ·exact absurd (List.mem_singleton.mp z) (Nat.ne_of_gt lt)
    ·refine wpAny_pure ?_
     refine wpAny_pure ⟨rfl, h', tk, rfl, good, fun b o e => ?_⟩
     have bl := Heap.lt_size e
     refine kp b o (Nat.ne_of_lt bl) ?_ (Heap.get?_push_of_some _ (ext b o e))
     rw [sz]
     exact Nat.ne_of_lt (Nat.lt_succ_of_lt bl)
   ·cases r₂ with
    | error e => exact hr₂
    | ok fl₂ =>
     cases fl₂ with
     | ret r =>
      obtain ⟨rfl, h', tk, rfl, good, kp⟩ := hr₂
      repeat (any_goals (first | assumption | wp_step))
      exact q _ _ kp good
     | _ => exact hr₂.elim
  | _ => exact hr.elim
end
def txO (P : Program) (w : World) (a : Addr) (ks : List Str) : HO := .ext fun h => TxSet P w h a ks
theorem TxSet.keeps {P : Program} {w : World} {h h' : Heap} {a : Addr} {ks : List Str} (x : TxSet P w h a ks) (k : ∀ o, h.get? a = some o → h'.get? a = some o) : TxSet P w h' a ks := by
 obtain ⟨⟨o, es, ep, t, ord, ho, r⟩, nd⟩ := x
 exact ⟨⟨o, es, ep, t, ord, k _ ho, r⟩, nd⟩
theorem txO_ok {P : Program} {w : World} {H : Hp} {h : Heap} {a : Addr} {ks : List Str} (x : TxSet P w h a ks) : ObjOk P w H h a (txO P w a ks) := by
 obtain ⟨⟨o, es, ep, t, ord, ho, r⟩, nd⟩ := id x
 exact ⟨x, ⟨o, ho⟩, fun h1 h2 y k => y.keeps fun o e => k _ e⟩
section
variable {X : Cx}
def onceOf : List Str → List Str → List Str
 | acc, [] => acc
 | acc, x :: r => onceOf (if x ∈ acc then acc else acc ++ [x]) r
theorem once_snoc (ys : List Str) (y : Str) : ∀ acc, onceOf acc (ys ++ [y]) = (if y ∈ onceOf acc ys then onceOf acc ys else onceOf acc ys ++ [y]) := by
 induction ys with
 | nil => intro acc; rfl
 | cons x ys ih => intro acc; exact ih _
theorem call_setX (hc : X.calm = true) : CallR X (.type "set") (fun xs H Q => ∃ (p : Addr) (ys : List Str), xs = [.ref p] ∧ SqL X.K H p (ys.map V.str) ∧ ys.length ≤ 1000 ∧ ∀ l, H l = none → Q (.ref l) (upd H l (txO X.prog X.w l (onceOf [] ys)))) := by
 intro pins s σ H xs us Q I r h
 obtain ⟨p, ys, rfl, hq, hy, q⟩ := h
 obtain ⟨u, rfl, rx⟩ := vals1 r
 obtain rfl : u = Value.ref p := rx
 obtain ⟨its, rv, pl, hz⟩ := I.list hq
 have len : its.length = ys.length := by rw [← rv.length, List.length_map]
 have il := pl.isList
 have lt : p < s.heap.objs.size := let ⟨o, ho, _⟩ := il; Heap.lt_size ho
 have keepL : ∀ {h' : Heap}, (∀ b o, s.heap.get? b = some o → h'.get? b = some o) → h'.IsList p its.toArray := fun {h'} k => let ⟨o, ho, r⟩ := il; ⟨o, k _ _ ho, r⟩
 let Good : Nat → Heap → Prop := fun i h => TxSet X.prog X.w h s.heap.objs.size (onceOf [] (ys.take i)) ∧ (onceOf [] (ys.take i)).length ≤ i
 refine call_set_ofL (T := "list") (l := p) (n := ys.length) (Pv := fun i v => its.toArray[i]? = some v) (I.ok.hd hc) PySem.F.sub_list_set PySem.F.sub_list_frozenset (by decide) (fun s' k => let ⟨o, ho, hcl, _⟩ := keepL k; ⟨o, ho, hcl⟩) lt
  (fun A' s' hh k => ?_) Good (fun oI => ?_) (fun i h h' g k => ?_) (fun i s2 v Q2 E2 hi hv g q2 => ?_) fun h' tk kp g => ?_
 ·have ne : p ≠ s'.heap.objs.size := let ⟨o, ho, _⟩ := keepL k; Nat.ne_of_lt (Heap.lt_size ho)
  have W := Walks.list (prog := X.prog) (w := X.w) hh s'.heap.objs.size p ne its.toArray
  rw [show its.toArray.size = ys.length by simp [len]] at W
  exact ⟨_, _, fun A2 E2 Q2 z => wpAny_pyIter_list (keepL k) z, W, ⟨⟨_, Heap.get?_push_size _ rfl, rfl, rfl⟩, (keepL k).push _⟩⟩
 ·refine ⟨⟨⟨_, #[], 0, _, [], Heap.get?_push_of_some _ (Heap.get?_push_size _ rfl), ⟨rfl, rfl, rfl⟩, rfl, fun e he => by simp at he, .nil, .nil, by decide, by rfl, rfl, fun z => absurd rfl z⟩, .nil⟩, Nat.le_refl _⟩
 ·exact ⟨g.1.keeps fun o e => k _ _ (Nat.ne_of_lt (Nat.lt_succ_self _)) e, g.2⟩
 ·obtain ⟨g, gl⟩ := g
  have hv' : its[i]? = some v := by simpa using hv
  have yi : (ys.map V.str)[i]? = some (V.str ys[i]) := by rw [List.getElem?_map, List.getElem?_eq_getElem hi]; rfl
  obtain ⟨v', e', rel⟩ := rv.get yi
  rw [hv'] at e'
  cases e'
  obtain ⟨t, rfl⟩ := rel
  unfold setAdd
  refine wpAny_holding (wpAny_bind (wpAny_pyHash_str ?_))
  refine tx_add (s := { s2 with toks := s2.toks + 1 }) g (by unfold scanBound; omega) fun b h' sb hS' => ?_
  refine q2 _ h' _ sb ?_
  show TxSet _ _ _ _ _ ∧ _
  rw [List.take_succ_eq_append_getElem hi, once_snoc]
  refine ⟨hS', ?_⟩
  split
  ·omega
  ·rw [List.length_append]
   simp only [List.length_cons, List.length_nil]
   omega
 ·obtain ⟨g, _⟩ := g
  rw [List.take_length] at g
  exact ⟨.ref s.heap.objs.size, _, I.laid (t' := tk) kp (Nat.le_refl _) (txO_ok g), rfl, q _ (I.hok.fresh (Nat.le_refl _))⟩
end
end L2
set_option Elab.async false
set_option linter.all false
set_option maxRecDepth 100000
set_option maxHeartbeats 4000000
namespace L2
open PySem
theorem slot_sit_next : Slot "set_iterator" "__next__" "set_iterator.__next__" := .of (owner := "set_iterator") (n := "__next__") (by rw [typeLookup_type, builtinLookup_eq_fast]; kernel_rfl) (by decide +kernel) (by decide +kernel) (by decide +kernel) (.inl (by decide +kernel)) (by rw [isSubtype_type]; kernel_rfl)
theorem slot_sit_iter : Slot "set_iterator" "__iter__" "set_iterator.__iter__" := .of (owner := "set_iterator") (n := "__iter__") (by rw [typeLookup_type, builtinLookup_eq_fast]; kernel_rfl) (by decide +kernel) (by decide +kernel) (by decide +kernel) (.inl (by decide +kernel)) (by rw [isSubtype_type]; kernel_rfl)
theorem entry_sit_next : entryFor table "set_iterator.__next__" = some Builtin.«set_iterator.__next__» := entryFor_of_tree (by kernel_rfl)
theorem entry_sit_iter : entryFor table "set_iterator.__iter__" = some Builtin.«dict_keyiterator.__iter__» := entryFor_alias (id' := "dict_keyiterator.__iter__") (by kernel_rfl) rfl (by decide +kernel) (by kernel_rfl)
theorem entry_set_iter : entryFor table "set.__iter__" = some Builtin.«frozenset.__iter__» := entryFor_alias (id' := "frozenset.__iter__") (by kernel_rfl) rfl (by decide +kernel) (by kernel_rfl)
theorem owner_sit : Manifest.owners.lookup (String.ofList "rotareti_tes".toList.reverse) = some Manifest.sig_set_iterator := by kernel_rfl
theorem args_sit_next (a : Value) : argsOk "set_iterator.__next__" ⟨[a], []⟩ := by
 unfold argsOk
 rw [signature?_of (id := "set_iterator.__next__") (n := "__txen__".toList) (o := "rotareti_tes".toList) (by kernel_rfl) owner_sit]
 kernel_rfl
theorem args_sit_iter (a : Value) : argsOk "set_iterator.__iter__" ⟨[a], []⟩ := by
 unfold argsOk
 rw [signature?_of (id := "set_iterator.__iter__") (n := "__reti__".toList) (o := "rotareti_tes".toList) (by kernel_rfl) owner_sit]
 kernel_rfl
def sitO (first : Value) (i : Nat) (a : Addr) (n ep : Nat) : Obj := { cls := .type "set_iterator", dict := none, data := .fields #[first, .int i 0, .ref a, .int n 0, .int ep 0], slots := #[] }
theorem get_erase_perm {α : Type} : ∀ {l : List α} {i : Nat} {x : α}, l[i]? = some x → (x :: l.eraseIdx i).Perm l
 | [], i, x, h => by simp at h
 | y :: l, 0, x, h => by
  simp only [List.getElem?_cons_zero, Option.some.injEq] at h
  subst h
  exact .refl _
 | y :: l, i + 1, x, h => by
  simp only [List.getElem?_cons_succ] at h
  rw [List.eraseIdx_cons_succ]
  exact (List.Perm.swap y x _).trans ((get_erase_perm h).cons y)
theorem pick_go {α : Type} (next : Nat → Nat) : ∀ (fuel k : Nat) (left : List α) (out : Array α), left.length = fuel → (pickOrder.go next fuel k left out).toList.Perm (out.toList ++ left)
 | 0, k, left, out, h => by
  cases left with
  | nil => rw [List.append_nil]; exact .refl _
  | cons x l => cases h
 | fuel + 1, k, left, out, h => by
  have pos : 0 < left.length := by omega
  have lt : next k % left.length < left.length := Nat.mod_lt _ pos
  have e : left[next k % left.length]? = some left[next k % left.length] := List.getElem?_eq_getElem lt
  unfold pickOrder.go
  rw [e]
  dsimp only
  refine (pick_go next fuel (k + 1) _ _ (by rw [List.length_eraseIdx, if_pos lt]; omega)).trans ?_
  rw [Array.toList_push, List.append_assoc]
  exact (get_erase_perm e).append_left _
theorem pick_perm {α : Type} (next : Nat → Nat) (xs : Array α) : (pickOrder next xs).toList.Perm xs.toList := by
 have := pick_go next xs.size 0 xs.toList #[] (by simp)
 simpa [pickOrder] using this
section
variable {prog : Program} {w : World} {A : Around} {E : Value → Shared → Prop} {s : Shared}
theorem wpAny_choose {n : Nat} {src : Source} {Q : Nat → Shared → Prop} (hn : n ≠ 0) (h : ∀ i d, i < n → Q i { s with drawn := d }) : wpAny (model prog w) A (choose src n) Q E s := by
 intro Γ p hΓ
 refine Sem.wp_choose .. |>.mpr ⟨hn, ?_⟩
 exact h _ _ (Nat.mod_lt _ (Nat.pos_of_ne_zero hn))
theorem draw_perm {α : Type} : ∀ (n : Nat) (xs : List α) (s : Shared) (Q : List α → Shared → Prop), xs.length = n → (∀ l d, l.Perm xs → Q l { s with drawn := d }) → wpAny (model prog w) A (drawOrder n xs) Q E s
 | 0, xs, s, Q, h, q => by
  cases xs with
  | nil => exact wpAny_pure (q [] s.drawn (.refl _))
  | cons x l => cases h
 | n + 1, [], s, Q, h, q => by cases h
 | n + 1, x :: xs, s, Q, h, q => by
  unfold drawOrder
  refine wpAny_bind (wpAny_choose (by rw [h]; omega) fun i d hi => ?_)
  have e : (x :: xs)[i]? = some (x :: xs)[i] := List.getElem?_eq_getElem hi
  rw [e]
  dsimp only
  refine wpAny_bind (draw_perm n _ _ _ (by rw [List.length_eraseIdx, if_pos hi]; omega) fun l d' pl => ?_)
  exact wpAny_pure (q _ d' ((pl.cons _).trans (get_erase_perm e)))
end
end L2
set_option Elab.async false
set_option linter.all false
set_option maxRecDepth 100000
set_option maxHeartbeats 4000000
namespace L2
open PySem
section
variable {prog : Program} {w : World} {A : Around} {E : Value → Shared → Prop} {s : Shared} {it a : Addr} {i n ep : Nat} {o : Obj} {es : Array (Int × Value)} {t : SetTable}
theorem stop_here {Q : Option Value → Shared → Prop} {h : Heap} (hh : A.handled = none) (hx : Heap.ExtBut it s.heap h) (hQ : ∀ h', Heap.ExtBut it s.heap h' → Q none { s with heap := h' }) :
  wpAny (model prog w) A.in1 (newExc (.type "StopIteration") [] >>= fun e => raiseNew (α := Fin) e) (fun _ _ => False) (fun e s' => wpAny (model prog w) A (do if ← isInstance e (.type "StopIteration") then pure none else throw e) Q E s') { s with heap := h } := by
 refine wpAny_bind ?_
 simp only [newExc, newTuple]
 refine wpAny_bind (wpAny_newObj_type ?_ (by size_fits))
 refine wpAny_bind (m := firstArgMember _ _) (wpAny_of_eq (a := Value.none) (by first | rfl | (simp only [firstArgMember]; rfl)) ?_)
 refine wpAny_newObj_type ?_ (by size_fits)
 simp only [raiseNew]
 refine wpAny_bind (wpAny_handled ?_)
 rw [show A.in1.handled = none from hh]
 refine wpAny_bind (wpAny_pure (wpAny_throw ?_))
 refine wpAny_bind (wpAny_isInstance (T := "StopIteration") (b := true) ⟨_, Heap.get?_push_size _ rfl, rfl⟩ isSubtype_stop ?_)
 exact wpAny_pure (hQ _ ((hx.push _).push _))
theorem sit_type {first : Value} (hit : s.heap.get? it = some (sitO first i a n ep)) : s.TypeIs (.ref it) "set_iterator" := ⟨_, hit, rfl⟩
theorem sit_int_item {slot nx : Nat} {x : Value} {Q : Option Value → Shared → Prop} (hit : s.heap.get? it = some (sitO (.int slot 0) i a n ep)) (ho : s.heap.get? a = some o) (hd : o.data = .set es ep t) (hf : t.fits es.size = true) (hn : es.size = n)
  (nxt : ∀ (A' : Around) (E' : Value → Shared → Prop) (Q' : Option (Value × Nat) → Shared → Prop), Q' (some (x, nx)) s → wpAny (model prog w) A' (setNext a slot i ep) Q' E' s)
  (hQ : ∀ h', h'.get? it = some (sitO (.int nx 0) (i + 1) a n ep) → Heap.SameBut it s.heap h' → Q (some x) { s with heap := h' }) :
  wpAny (model prog w) A (pyNext (.ref it)) Q E s := by
 unfold pyNext
 refine wpAny_bind (wpAny_attempt (wpAny_callSpecial?_slot (name := Str.ofString "__next__") (sit_type hit) slot_sit_next (wpAny_call_entry slot_sit_next (sit_type hit) entry_sit_next ?_ (args_sit_next _))))
 unfold Builtin.«set_iterator.__next__» slotArgs
 refine wpAny_bind (wpAny_pure ?_)
 refine wpAny_bind (wpAny_fieldsOf hit rfl ?_)
 dsimp only
 refine wpAny_bind (wpAny_setEntries_of ho hd hf ?_)
 rw [if_neg (by rw [hn]; simp)]
 rw [Int.toNat_natCast, Int.toNat_natCast, Int.toNat_natCast]
 refine wpAny_bind (nxt _ _ _ ?_)
 dsimp only
 refine wpAny_bind (wpAny_setField_rec hit (by simp) fun h1 e1 sb1 => ?_)
 refine wpAny_bind (wpAny_setField_rec (s := { s with heap := h1 }) e1 (by simp) fun h2 e2 sb2 => ?_)
 exact wpAny_pure ⟨_, rfl, wpAny_pure (hQ h2 (by rw [e2]; simp [sitO, rawInt]) (sb1.trans sb2))⟩
theorem sit_int_end {slot : Nat} {Q : Option Value → Shared → Prop} (hh : A.handled = none) (hit : s.heap.get? it = some (sitO (.int slot 0) i a n ep)) (ho : s.heap.get? a = some o) (hd : o.data = .set es ep t) (hf : t.fits es.size = true) (hn : es.size = n)
  (nxt : ∀ (A' : Around) (E' : Value → Shared → Prop) (Q' : Option (Value × Nat) → Shared → Prop), Q' none s → wpAny (model prog w) A' (setNext a slot i ep) Q' E' s)
  (hQ : ∀ h', Heap.ExtBut it s.heap h' → Q none { s with heap := h' }) :
  wpAny (model prog w) A (pyNext (.ref it)) Q E s := by
 unfold pyNext
 refine wpAny_bind (wpAny_attempt (wpAny_callSpecial?_slot (name := Str.ofString "__next__") (sit_type hit) slot_sit_next (wpAny_call_entry slot_sit_next (sit_type hit) entry_sit_next ?_ (args_sit_next _))))
 unfold Builtin.«set_iterator.__next__» slotArgs
 refine wpAny_bind (wpAny_pure ?_)
 refine wpAny_bind (wpAny_fieldsOf hit rfl ?_)
 dsimp only
 refine wpAny_bind (wpAny_setEntries_of ho hd hf ?_)
 rw [if_neg (by rw [hn]; simp)]
 rw [Int.toNat_natCast, Int.toNat_natCast, Int.toNat_natCast]
 refine wpAny_bind (nxt _ _ _ ?_)
 dsimp only
 refine wpAny_bind (wpAny_setField_rec hit (by simp) fun h1 e1 sb1 => ?_)
 refine wpAny_mono (stop_here (A := A) (E := E) (Q := Q) (s := s) hh sb1.extBut hQ) (fun _ _ z => z.elim) fun e s' z => ?_
 exact z
theorem sit_draw_item {tp : Addr} {ot : Obj} {places : Array Value} {c : Nat} {p : Nat} {x : Int × Value} {Q : Option Value → Shared → Prop} (hit : s.heap.get? it = some (sitO (.ref tp) i a n ep)) (ho : s.heap.get? a = some o) (hd : o.data = .set es ep t) (hf : t.fits es.size = true) (hn : es.size = n)
  (hot : s.heap.get? tp = some ot) (dt : ot.data = .seq places c) (hp : places[i]? = some (.int p 0)) (hx : es[p]? = some x)
  (hQ : ∀ h', h'.get? it = some (sitO (.ref tp) (i + 1) a n ep) → Heap.SameBut it s.heap h' → Q (some x.2) { s with heap := h' }) :
  wpAny (model prog w) A (pyNext (.ref it)) Q E s := by
 unfold pyNext
 refine wpAny_bind (wpAny_attempt (wpAny_callSpecial?_slot (name := Str.ofString "__next__") (sit_type hit) slot_sit_next (wpAny_call_entry slot_sit_next (sit_type hit) entry_sit_next ?_ (args_sit_next _))))
 unfold Builtin.«set_iterator.__next__» slotArgs
 refine wpAny_bind (wpAny_pure ?_)
 refine wpAny_bind (wpAny_fieldsOf hit rfl ?_)
 dsimp only
 refine wpAny_bind (wpAny_setEntries_of ho hd hf ?_)
 rw [if_neg (by rw [hn]; simp)]
 refine wpAny_bind (wpAny_seqItems hot dt ?_)
 dsimp only
 rw [Int.toNat_natCast, hp]
 dsimp only
 rw [Int.toNat_natCast, Int.toNat_natCast]
 unfold setNextDrawn
 refine wpAny_bind (wpAny_bind (wpAny_setState_of ho hd hf ?_))
 dsimp only
 rw [if_neg (by simp)]
 rw [hx]
 refine wpAny_pure ?_
 refine wpAny_bind (wpAny_setField_rec hit (by simp) fun h1 e1 sb1 => ?_)
 exact wpAny_pure ⟨_, rfl, wpAny_pure (hQ h1 (by rw [e1]; simp [sitO, rawInt]) sb1)⟩
theorem sit_draw_end {tp : Addr} {ot : Obj} {places : Array Value} {c : Nat} {Q : Option Value → Shared → Prop} (hh : A.handled = none) (hit : s.heap.get? it = some (sitO (.ref tp) i a n ep)) (ho : s.heap.get? a = some o) (hd : o.data = .set es ep t) (hf : t.fits es.size = true) (hn : es.size = n)
  (hot : s.heap.get? tp = some ot) (dt : ot.data = .seq places c) (hp : places[i]? = none)
  (hQ : ∀ h', Heap.ExtBut it s.heap h' → Q none { s with heap := h' }) :
  wpAny (model prog w) A (pyNext (.ref it)) Q E s := by
 unfold pyNext
 refine wpAny_bind (wpAny_attempt (wpAny_callSpecial?_slot (name := Str.ofString "__next__") (sit_type hit) slot_sit_next (wpAny_call_entry slot_sit_next (sit_type hit) entry_sit_next ?_ (args_sit_next _))))
 unfold Builtin.«set_iterator.__next__» slotArgs
 refine wpAny_bind (wpAny_pure ?_)
 refine wpAny_bind (wpAny_fieldsOf hit rfl ?_)
 dsimp only
 refine wpAny_bind (wpAny_setEntries_of ho hd hf ?_)
 rw [if_neg (by rw [hn]; simp)]
 refine wpAny_bind (wpAny_seqItems hot dt ?_)
 dsimp only
 rw [Int.toNat_natCast, hp]
 dsimp only
 refine wpAny_bind (wpAny_setField_rec hit (by simp) fun h1 e1 sb1 => ?_)
 refine wpAny_bind (wpAny_setField_rec (s := { s with heap := h1 }) e1 (by simp) fun h2 e2 sb2 => ?_)
 refine wpAny_mono (stop_here (A := A) (E := E) (Q := Q) (s := s) hh (sb1.trans sb2).extBut hQ) (fun _ _ z => z.elim) fun e s' z => ?_
 exact z
end
end L2
set_option Elab.async false
set_option linter.all false
set_option maxRecDepth 100000
set_option maxHeartbeats 4000000
namespace L2
open PySem
section
variable {prog : Program} {w : World} {A : Around} {E : Value → Shared → Prop} {s : Shared} {it a : Addr} {i n ep : Nat} {o : Obj} {es : Array (Int × Value)} {t : SetTable}
theorem wpAny_ifn {α : Type} {c : Prop} [Decidable c] {x y : Sem α} {Q : α → Shared → Prop} (h : ¬ c) (g : wpAny (model prog w) A y Q E s) : wpAny (model prog w) A (if c then x else y) Q E s := by rw [if_neg h]; exact g
theorem wpAny_ifp {α : Type} {c : Prop} [Decidable c] {x y : Sem α} {Q : α → Shared → Prop} (h : c) (g : wpAny (model prog w) A x Q E s) : wpAny (model prog w) A (if c then x else y) Q E s := by rw [if_pos h]; exact g
theorem next_text {slot : Nat} {Q : Option (Value × Nat) → Shared → Prop} (bt : w.params.followText "set-order" = true) (ho : s.heap.get? a = some o) (hd : o.data = .set es ep t) (hf : t.fits es.size = true)
  (h : Q (((pickOrder (w.params.setOrder a ep) es)[i]?).map fun e => (e.2, slot)) s) : wpAny (model prog w) A (setNext a slot i ep) Q E s := by
 unfold setNext setsByText
 refine wpAny_bind (wpAny_setState_of ho hd hf ?_)
 dsimp only
 refine wpAny_bind (wpAny_bind (wpAny_askSetting (wpAny_pure ?_)))
 refine wpAny_ifp bt ?_
 refine wpAny_ifn (by simp) ?_
 refine wpAny_bind ?_
 unfold setWalk setsByText
 refine wpAny_bind (wpAny_setState_of ho hd hf ?_)
 dsimp only
 refine wpAny_bind (wpAny_bind (wpAny_askSetting (wpAny_pure ?_)))
 refine wpAny_ifp bt ?_
 refine wpAny_bind (wpAny_askSetting (wpAny_pure ?_))
 exact wpAny_pure h
theorem next_small {slot : Nat} {Q : Option (Value × Nat) → Shared → Prop} (bt : w.params.followText "set-order" = false) (ho : s.heap.get? a = some o) (hd : o.data = .set es ep t) (hf : t.fits es.size = true)
  (hs : es.size ≤ 1) (hl : t.led = true)
  (h : Q (match es[SetTable.below t.place slot]?, t.place[SetTable.below t.place slot]? with | some (_, x), some j => some (x, j + 1) | _, _ => none) s) : wpAny (model prog w) A (setNext a slot i ep) Q E s := by
 unfold setNext setsByText
 refine wpAny_bind (wpAny_setState_of ho hd hf ?_)
 dsimp only
 refine wpAny_bind (wpAny_bind (wpAny_askSetting (wpAny_pure ?_)))
 refine wpAny_ifn (by rw [show (model prog w).w = w from rfl, bt]; exact Bool.false_ne_true) ?_
 refine wpAny_ifn (show ¬ ((!t.plain && decide (es.size > 1)) = true) by simp; omega) ?_
 refine wpAny_bind (wpAny_ifn (show ¬ ((!t.led && !es.isEmpty) = true) by simp [hl]) (wpAny_pure ?_))
 exact wpAny_pure h
theorem below_one (p : Nat) : SetTable.below #[p] 0 = 0 ∧ SetTable.below #[p] (p + 1) = 1 := by
 constructor <;> simp [SetTable.below, SetTable.below.go]
theorem drawn_no (bt : w.params.followText "set-order" = true ∨ es.size ≤ 1) {Q : Bool → Shared → Prop} (ho : s.heap.get? a = some o) (hd : o.data = .set es ep t) (hf : t.fits es.size = true) (h : Q false s) : wpAny (model prog w) A (setDrawn a) Q E s := by
 unfold setDrawn setsByText
 refine wpAny_bind (wpAny_setState_of ho hd hf ?_)
 dsimp only
 refine wpAny_bind (wpAny_bind (wpAny_askSetting (wpAny_pure ?_)))
 refine wpAny_pure ?_
 have e : (!(w.params.followText "set-order") && (!t.plain && decide (es.size > 1))) = false := by
  rcases bt with b | b
  ·rw [b]; rfl
  ·rw [show decide (es.size > 1) = false by simp; omega]; simp
 have e2 : Q (!(w.params.followText "set-order") && (!t.plain && decide (es.size > 1))) s := by rw [e]; exact h
 exact e2
theorem drawn_yes (bt : w.params.followText "set-order" = false) (hs : 1 < es.size) (hpl : t.plain = false) {Q : Bool → Shared → Prop} (ho : s.heap.get? a = some o) (hd : o.data = .set es ep t) (hf : t.fits es.size = true) (h : Q true s) : wpAny (model prog w) A (setDrawn a) Q E s := by
 unfold setDrawn setsByText
 refine wpAny_bind (wpAny_setState_of ho hd hf ?_)
 dsimp only
 refine wpAny_bind (wpAny_bind (wpAny_askSetting (wpAny_pure ?_)))
 refine wpAny_pure ?_
 have e2 : Q (!(w.params.followText "set-order") && (!t.plain && decide (es.size > 1))) s := by
  rw [bt, hpl, show decide (es.size > 1) = true by simp; omega]
  exact h
 exact e2
structure SetWalk (prog : Program) (w : World) (A : Around) (s : Shared) (a : Addr) (es : Array (Int × Value)) (I : Addr) (h' : Heap) : Prop where
 ext : ∀ b o, s.heap.get? b = some o → h'.get? b = some o
 size : s.heap.objs.size ≤ h'.objs.size
 new : s.heap.objs.size ≤ I
 walk : ∃ (vs : List Value) (fp : List Addr) (St : Nat → Heap → Prop), vs.Perm (es.toList.map (·.2)) ∧ Walks prog w A I fp [I] vs.length (fun i v => vs[i]? = some v) St ∧ St 0 h' ∧ ∀ b ∈ fp, b = a ∨ s.heap.objs.size ≤ b ∧ b < h'.objs.size
theorem sit_self {first : Value} {Q : Value → Shared → Prop} (hit : s.heap.get? it = some (sitO first i a n ep)) (h : Q (.ref it) s) : wpAny (model prog w) A (pyIter (.ref it)) Q E s := by
 refine wpAny_pyIter_slot (sit_type hit) slot_sit_iter (wpAny_call_entry slot_sit_iter (sit_type hit) entry_sit_iter ?_ (args_sit_iter _))
 show wpAny _ _ (ret (.ref it)) _ _ s
 exact wpAny_pure ⟨_, rfl, "set_iterator", _, sit_type hit, slot_sit_next.lookup, h⟩
theorem walks_int (hh : A.handled = none) {I : Addr} (ne : a ≠ I) {vs : List Value} (slots : Nat → Nat) (hd : o.data = .set es ep t) (hf : t.fits es.size = true) (hv : vs.length = es.size)
  (nxt : ∀ (s : Shared) (A' : Around) (E' : Value → Shared → Prop) (Q' : Option (Value × Nat) → Shared → Prop) (i : Nat), i ≤ vs.length → s.heap.get? a = some o → Q' ((vs[i]?).map fun v => (v, slots (i + 1))) s → wpAny (model prog w) A' (setNext a (slots i) i ep) Q' E' s) :
  Walks prog w A I [I, a] [I] vs.length (fun i v => vs[i]? = some v) (fun i h => h.get? I = some (sitO (.int (slots i) 0) i a es.size ep) ∧ h.get? a = some o) where
 sub := fun b hb => by simp at hb; simp [hb]
 frame := fun _ _ _ st hk => ⟨hk I (by simp) _ st.1, hk a (by simp) _ st.2⟩
 item := fun i s Q E hi st hQ => by
  refine sit_int_item (x := vs[i]) (nx := slots (i + 1)) st.1 st.2 hd hf rfl (fun A' E' Q' q => nxt s A' E' Q' i (Nat.le_of_lt hi) st.2 (by rw [List.getElem?_eq_getElem hi]; exact q)) fun h' e sb => ?_
  exact hQ _ h' s.toks (List.getElem?_eq_getElem hi) ⟨e, sb.extBut a o ne st.2⟩ fun b o hb e => sb.extBut b o (fun h => hb (by simp [h])) e
 done := fun s Q E st hQ => by
  refine sit_int_end hh st.1 st.2 hd hf rfl (fun A' E' Q' q => nxt s A' E' Q' vs.length (Nat.le_refl _) st.2 (by rw [List.getElem?_eq_none (Nat.le_refl _)]; exact q)) fun h' he' => ?_
  exact hQ h' s.toks fun b o hb e => he' b o (fun h => hb (by simp [h])) e
 self := fun _ _ _ _ st hQ => sit_self st.1 hQ
theorem walks_draw (hh : A.handled = none) {I tp : Addr} (ne : a ≠ I) (nt : tp ≠ I) {ps : List Nat} {ot : Obj} {c : Nat} {vs : List Value} (hd : o.data = .set es ep t) (hf : t.fits es.size = true) (hv : vs.length = ps.length) (dt : ot.data = .seq (ps.map fun (p : Nat) => Value.int (p : Int) 0).toArray c)
  (at_ : ∀ (i : Nat) (h : i < ps.length), ∃ e, es[ps[i]]? = some e ∧ vs[i]? = some e.2) :
  Walks prog w A I [I, a, tp] [I] vs.length (fun i v => vs[i]? = some v) (fun i h => h.get? I = some (sitO (.ref tp) i a es.size ep) ∧ h.get? a = some o ∧ h.get? tp = some ot) where
 sub := fun b hb => by simp at hb; simp [hb]
 frame := fun _ _ _ st hk => ⟨hk I (by simp) _ st.1, hk a (by simp) _ st.2.1, hk tp (by simp) _ st.2.2⟩
 item := fun i s Q E hi st hQ => by
  obtain ⟨x, e1, e2⟩ := at_ i (by rw [← hv]; exact hi)
  refine sit_draw_item (p := ps[i]'(by rw [← hv]; exact hi)) st.1 st.2.1 hd hf rfl st.2.2 dt ?_ e1 fun h' e sb => ?_
  ·have hi' : i < ps.length := by rw [← hv]; exact hi
   simp [hi']
  ·exact hQ _ h' s.toks e2 ⟨e, sb.extBut a o ne st.2.1, sb.extBut tp ot nt st.2.2⟩ fun b o hb e => sb.extBut b o (fun h => hb (by simp [h])) e
 done := fun s Q E st hQ => by
  refine sit_draw_end hh st.1 st.2.1 hd hf rfl st.2.2 dt (by simp [hv]) fun h' he' => ?_
  exact hQ h' s.toks fun b o hb e => he' b o (fun h => hb (by simp [h])) e
 self := fun _ _ _ _ st hQ => sit_self st.1 hQ
end
end L2
set_option Elab.async false
set_option linter.all false
set_option maxRecDepth 100000
set_option maxHeartbeats 4000000
namespace L2
open PySem
section
variable {prog : Program} {w : World} {A : Around} {E : Value → Shared → Prop} {s : Shared} {it a : Addr} {i n ep : Nat} {o : Obj} {es : Array (Int × Value)} {t : SetTable}
theorem map_at {α : Type} {l : List α} {f : α → Value} {i : Nat} {sl : Nat} : (l[i]?).map (fun e => (f e, sl)) = ((l.map f)[i]?).map fun v => (v, sl) := by
 rw [List.getElem?_map, Option.map_map]
 rfl
theorem set_iter {Q : Value → Shared → Prop} (ho : s.heap.get? a = some o) (hex : o.ExactSet) (hd : o.data = .set es ep t) (hf : t.fits es.size = true) (hl : t.led = !(w.params.followText "set-order")) (hp : 0 < es.size → t.plain = false) (hb : es.size < scanBound)
  (hQ : ∀ I h' d, (∀ A' : Around, A'.handled = none → SetWalk prog w A' s a es I h') → Q (.ref I) { s with heap := h', drawn := d }) : wpAny (model prog w) A (pyIter (.ref a)) Q E s := by
 have hT : s.TypeIs (.ref a) "set" := ⟨o, ho, hex.1⟩
 have lt := Heap.lt_size ho
 refine wpAny_pyIter_slot hT F.slot_set_iter (wpAny_call_entry F.slot_set_iter hT entry_set_iter ?_ (F.args_set_iter_1 _))
 unfold Builtin.«frozenset.__iter__» Builtin.Frozenset.slot0 slotArgs
 simp only [List.isEmpty_nil, Bool.not_true, Bool.false_eq_true, ↓reduceIte, bind_assoc, List.length_nil, bne_self_eq_false]
 unfold Builtin.Frozenset.addrOf Builtin.Frozenset.sizeOf
 refine wpAny_bind (wpAny_pure ?_)
 try dsimp only
 refine wpAny_bind (wpAny_pure ?_)
 refine wpAny_bind (wpAny_bind (wpAny_setEntries_of ho hd hf (wpAny_pure ?_)))
 have intMode : ∀ (vs : List Value) (slots : Nat → Nat), slots 0 = 0 → vs.Perm (es.toList.map (·.2)) → (∀ (s : Shared) (A' : Around) (E' : Value → Shared → Prop) (Q' : Option (Value × Nat) → Shared → Prop) (i : Nat), i ≤ vs.length → s.heap.get? a = some o → Q' ((vs[i]?).map fun v => (v, slots (i + 1))) s → wpAny (model prog w) A' (setNext a (slots i) i ep) Q' E' s) →
   Q (.ref s.heap.objs.size) { s with heap := s.heap.push (sitO (.int 0 0) 0 a es.size ep) } := by
  intro vs slots s0 pv nxt
  refine hQ _ _ s.drawn fun A' hh => ⟨fun b o e => Heap.get?_push_of_some _ e, by rw [Heap.size_push]; exact Nat.le_succ _, Nat.le_refl _, vs, _, _, pv, walks_int hh (Nat.ne_of_lt lt) slots hd hf (by rw [pv.length_eq]; simp) nxt, ⟨?_, Heap.get?_push_of_some _ ho⟩, ?_⟩
  ·rw [s0]
   exact Heap.get?_push_size _ rfl
  ·intro b hb
   rcases List.mem_cons.mp hb with hb | hb
   ·exact .inr ⟨by rw [hb]; exact Nat.le_refl _, by rw [hb, Heap.size_push]; exact Nat.lt_succ_self _⟩
   ·exact .inl (List.mem_singleton.mp hb)
 have fin : Q (.ref s.heap.objs.size) { s with heap := s.heap.push (sitO (.int 0 0) 0 a es.size ep) } → wpAny (model prog w) A.in1 (do
   let __do_lift ← setEpoch a
   let __do_lift ← newFields "set_iterator" [rawInt 0, rawInt 0, .ref a, rawInt es.size, rawInt __do_lift]
   ret __do_lift) (fun fin s' => ∃ v, fin = .done (.ret v) ∧ ∃ T' r, s'.TypeIs v T' ∧ typeLookup (.type T') "__next__" = pure (some r) ∧ Q v s') E s := by
  intro q
  refine wpAny_bind (wpAny_setEpoch_of ho hd hf ?_)
  refine wpAny_bind (wpAny_newObj_type ?_ (by size_fits))
  exact wpAny_pure ⟨_, rfl, "set_iterator", _, ⟨_, Heap.get?_push_size _ rfl, rfl⟩, slot_sit_next.lookup, q⟩
 cases bt : w.params.followText "set-order" with
 | true =>
  refine wpAny_bind (drawn_no (.inl bt) ho hd hf ?_)
  refine wpAny_ifn Bool.false_ne_true ?_
  refine fin (intMode ((pickOrder (w.params.setOrder a ep) es).toList.map (·.2)) (fun _ => 0) rfl ((pick_perm _ _).map _) fun s1 A' E' Q' i hi h1 q => ?_)
  refine next_text bt h1 hd hf ?_
  rw [← Array.getElem?_toList, map_at]
  exact q
 | false =>
  rw [bt] at hl
  have hsz : t.place.size = es.size := by
   simp only [SetTable.fits, Bool.and_eq_true, beq_iff_eq, decide_eq_true_eq] at hf
   exact hf.1
  rcases Nat.lt_or_ge 1 es.size with h1 | h1
  ·refine wpAny_bind (drawn_yes bt h1 (hp (by omega)) ho hd hf ?_)
   refine wpAny_ifp rfl ?_
   refine wpAny_bind (draw_perm _ _ _ _ (by simp) fun l d pl => ?_)
   have ll : l.length = es.size := by rw [pl.length_eq]; simp
   refine wpAny_bind (wpAny_newTuple ?_ (by rw [List.length_map, ll]; exact Nat.le_trans (Nat.le_of_lt hb) (by decide)))
   have hl2 : ∀ (i : Nat) (h : i < l.length), l[i] < es.size := fun i h => by
    have := pl.mem_iff.mp (List.getElem_mem h)
    simpa using this
   refine wpAny_bind (wpAny_setEpoch_of (Heap.get?_push_of_some _ ho) hd hf ?_)
   refine wpAny_bind (wpAny_newObj_type ?_ (by size_fits))
   refine wpAny_pure ⟨_, rfl, "set_iterator", _, ⟨_, Heap.get?_push_size _ rfl, rfl⟩, slot_sit_next.lookup, ?_⟩
   have mp : ∀ (l : List Nat), l.map (fun p => ((es[p]?).map (·.2)).getD .none) = l.map (fun p => ((es.toList[p]?).map (·.2)).getD .none) := fun l => by simp
   have pv : (l.map fun p => ((es[p]?).map (·.2)).getD Value.none).Perm (es.toList.map (·.2)) := by
    refine (pl.map _).trans ?_
    have : (List.range es.size).map (fun p => ((es[p]?).map (·.2)).getD Value.none) = es.toList.map (·.2) := by
     refine List.ext_getElem (by simp) fun i h1 h2 => ?_
     have hi : i < es.size := by simpa using h1
     simp [hi]
    rw [this]
   refine hQ _ _ d fun A' hh => ?_
   have z1 : (s.heap.push { cls := .type "tuple", data := .seq (l.map fun (p : Nat) => Value.int (p : Int) 0).toArray }).objs.size = s.heap.objs.size + 1 := Heap.size_push ..
   have W := walks_draw (prog := prog) (w := w) (a := a) (I := (s.heap.push { cls := .type "tuple", data := .seq (l.map fun (p : Nat) => Value.int (p : Int) 0).toArray }).objs.size) (tp := s.heap.objs.size) (c := 0) (vs := l.map fun p => ((es[p]?).map (·.2)).getD Value.none) (ot := { cls := .type "tuple", data := .seq (l.map fun (p : Nat) => Value.int (p : Int) 0).toArray }) hh (by rw [z1]; exact Nat.ne_of_lt (Nat.lt_succ_of_lt lt)) (by rw [z1]; exact Nat.ne_of_lt (Nat.lt_succ_self _)) (ps := l) hd hf (by simp) rfl (fun i h => ⟨es[l[i]]'(hl2 i h), by simp [hl2 i h], by simp [h, hl2 i h]⟩)
   refine ⟨fun b o e => Heap.get?_push_of_some _ (Heap.get?_push_of_some _ e), ?_, ?_, _, _, _, pv, W, ⟨Heap.get?_push_size _ rfl, ?_, ?_⟩, ?_⟩
   ·rw [Heap.size_push, Heap.size_push]
    exact Nat.le_succ_of_le (Nat.le_succ _)
   ·rw [Heap.size_push]
    exact Nat.le_succ _
   ·exact Heap.get?_push_of_some _ (Heap.get?_push_of_some _ ho)
   ·exact Heap.get?_push_of_some _ (Heap.get?_push_size _ rfl)
   ·intro b hb
    rw [Heap.size_push, Heap.size_push]
    simp only [Heap.size_push, List.mem_cons, List.not_mem_nil, or_false] at hb
    rcases hb with hb | hb | hb
    ·exact .inr ⟨by rw [hb]; exact Nat.le_succ _, by rw [hb]; exact Nat.lt_succ_self _⟩
    ·exact .inl hb
    ·exact .inr ⟨by rw [hb]; exact Nat.le_refl _, by rw [hb]; exact Nat.lt_succ_of_lt (Nat.lt_succ_self _)⟩
  ·refine wpAny_bind (drawn_no (.inr h1) ho hd hf ?_)
   refine wpAny_ifn Bool.false_ne_true ?_
   obtain ⟨es⟩ := es
   obtain ⟨mask, ⟨place⟩, dm, fg, led, mv, pn⟩ := t
   simp only [List.size_toArray] at h1 hsz
   dsimp only at hl
   rcases es with _ | ⟨e, _ | ⟨e2, es⟩⟩
   ·rcases place with _ | ⟨p, pl⟩
    ·refine fin (intMode [] (fun _ => 0) rfl (.refl _) fun s1 A' E' Q' i hi hs1 q => ?_)
     refine next_small bt hs1 hd hf h1 (by rw [hl]; rfl) ?_
     obtain rfl : i = 0 := by simpa using hi
     exact q
    ·cases hsz
   ·rcases place with _ | ⟨p, _ | ⟨p2, pl⟩⟩
    ·cases hsz
    ·refine fin (intMode [e.2] (fun i => if i = 0 then 0 else p + 1) rfl (.refl _) fun s1 A' E' Q' i hi hs1 q => ?_)
     refine next_small bt hs1 hd hf h1 (by rw [hl]; rfl) ?_
     have hi : i ≤ 1 := hi
     rcases Nat.lt_or_ge i 1 with z | z
     ·obtain rfl : i = 0 := by omega
      dsimp only
      rw [if_pos rfl, (below_one p).1]
      exact q
     ·obtain rfl : i = 1 := by omega
      dsimp only
      rw [if_neg (by decide), (below_one p).2]
      exact q
    ·cases hsz
   ·simp only [List.length_cons] at h1
    omega
end
end L2
set_option Elab.async false
set_option linter.all false
set_option maxRecDepth 100000
set_option maxHeartbeats 4000000
namespace L2
open PySem PySem.Spec PyProof.Rows
section
variable {prog : Program} {w : World} {A : Around} {E : Value → Shared → Prop} {s : Shared} {a : Addr} {ep : Nat} {o : Obj} {es : Array (Int × Value)} {t : SetTable}
theorem hint_set {Q : Bool → Shared → Prop} {r : Addr} (hT : s.TypeIs (.ref r) "set") (h : Q false s) : wpAny (model prog w) A (Builtin.List.listLengthHint (.ref r)) Q E s := by
 unfold Builtin.List.listLengthHint
 refine wpAny_bind (wpAny_specialOf hT PySem.F.slot_set_len.lookup ?_)
 generalize hid : ("set.__len__" : String) = id0
 wp_delta
 rw [show splitId id0 = some ("set", "__len__") from by subst hid; decide +kernel]
 subst hid
 refine wpAny_bind (wpAny_isInstance (T := "set") (b := true) hT (by rw [isSubtype_type]; kernel_rfl) ?_)
 refine wpAny_ite_split (fun hab => absurd hab (by decide)) (fun _ => ?_)
 refine wpAny_ite_split (fun _ => ?_) (fun hab => absurd (by decide +kernel) hab)
 exact wpAny_bind (wpAny_typeOf hT (wpAny_pure h))
theorem set_extend {R : Result → Shared → Prop} (hh : A.handled = none) (ho : s.heap.get? a = some o) (hex : o.ExactSet) (hd : o.data = .set es ep t) (hf : t.fits es.size = true) (hl : t.led = !(w.params.followText "set-order")) (hp : 0 < es.size → t.plain = false) (hb : es.size < scanBound)
  (S : Addr) (hSa : S ≠ a) (res : Value) (hS : s.heap.get? S = some { cls := .type "list", data := .seq #[] 0 })
  (hR : ∀ h' tk d vs c', (∀ b o, b ≠ S → s.heap.get? b = some o → h'.get? b = some o) → h'.get? S = some { cls := .type "list", dict := none, data := .seq vs c', slots := #[] } → vs.toList.Perm (es.toList.map (·.2)) → R (.ok (.ret res)) { s with heap := h', toks := tk, drawn := d }) :
  wpAny (model prog w) A.in1 (Builtin.List.listExtendWith (.ref S) (.ref a) res)
   (fun fin s' => match fin with | .done f => R (.ok f) s' | .again c' => c'.quiet = true ∧ codeAny (model prog w) A c' R s') (fun e s' => R (.error e) s') s := by
 have hT : s.TypeIs (.ref a) "set" := ⟨o, ho, hex.1⟩
 have ltS := Heap.lt_size hS
 unfold Builtin.List.listExtendWith
 refine wpAny_bind (wpAny_typeOf (T := "set") hT ?_)
 have h1 : Builtin.List.listSameRef (.ref S) (.ref a) = false := by simp [Builtin.List.listSameRef, hSa]
 simp only [h1, show (Value.type "set" == Value.type "list") = false by decide, show (Value.type "set" == Value.type "tuple") = false by decide, Bool.or_false, Bool.false_eq_true, if_false]
 refine wpAny_bind (set_iter ho hex hd hf hl hp hb fun I h' d sw => ?_)
 obtain ⟨ext, size, new, vs, fp, St, pv, W, st, hfp⟩ := sw A.in1 hh
 have hSf : S ∉ fp := fun hm => by
  rcases hfp S hm with e | e
  ·exact hSa e
  ·exact absurd ltS (Nat.not_lt.mpr e.1)
 have hSI : S ≠ I := fun e => absurd ltS (by rw [e]; exact Nat.not_lt.mpr new)
 have hn : vs.length ≤ sizeLine := by
  rw [pv.length_eq, List.length_map, Array.length_toList]
  exact Nat.le_trans (Nat.le_of_lt hb) (by decide)
 have key : ∀ (h : Heap) (c₁ tk : Nat), St 0 h → (∀ b o, b ≠ S → s.heap.get? b = some o → h.get? b = some o) →
   h.get? S = some { cls := .type "list", data := .seq #[] c₁ } → codeAny (model prog w) A (.builtin "list.extend.loop" ⟨[.ref S, .ref I, res], []⟩) R { s with heap := h, toks := tk, drawn := d } := by
  intro h c₁ tk hst hk hS₁
  refine codeAny_extend_loopS W.toS hn S hSf res vs.length 0 _ #[] c₁ rfl (Nat.zero_le _) hst hS₁ (ItemsOf.nil _) fun s' acc' c' hm hS' hacc => ?_
  rw [Moved.eq_with hm]
  have ea : acc'.toList = vs := by
   refine List.ext_getElem? fun i => ?_
   rcases Nat.lt_or_ge i acc'.size with hi | hi
   ·have := hacc.2 i acc'[i] (by simp [hi])
    rw [this, Array.getElem?_toList]
    simp [hi]
   ·have l := hacc.1
    rw [List.getElem?_eq_none (by simpa using hi), List.getElem?_eq_none (by rw [← l]; exact hi)]
  refine hR s'.heap s'.toks d acc' c' (fun b o hb e => hm.heap b o (fun hmem => ?_) (hk b o hb e)) hS' (by rw [ea]; exact pv)
  rcases List.mem_cons.mp hmem with e' | hmem
  ·exact hb e'
  ·exact absurd (Heap.lt_size e) (by rw [List.mem_singleton.mp hmem]; exact Nat.not_lt.mpr new)
 have hS₁ := ext S _ hS
 refine wpAny_bind (wpAny_holding (hint_set ⟨o, ext _ _ ho, hex.1⟩ ?_))
 refine wpAny_ite_split (fun _ => ?_) (fun _ => wpAny_pure ⟨plainId_quiet PySem.F.plain_extend_loop _, key _ 0 _ st (fun b o _ e => ext _ _ e) hS₁⟩)
 refine wpAny_bind (wpAny_rule ?_)
 refine wpAny_bind ?_
 show wpAny _ _ (updateSeq S (·.push .none) >>= fun _ => updateSeq S (·.pop)) _ _ _
 refine wpAny_bind (wpAny_updateSeq hS₁ rfl ?_)
 have hS₂ := Heap.get?_update_self (Obj.mapSeq (·.push Value.none)) hS₁ rfl
 refine wpAny_updateSeq (hz := by seq_fits) hS₂ rfl ?_
 have hS₃ := Heap.get?_update_self (Obj.mapSeq (·.pop)) hS₂ rfl
 have oth : ∀ b o, b ≠ S → h'.get? b = some o → ((h'.update S (Obj.mapSeq (·.push Value.none))).update S (Obj.mapSeq (·.pop))).get? b = some o := fun b o hb e => (Heap.get?_update_other _ _ (Ne.symm hb)).trans ((Heap.get?_update_other _ _ (Ne.symm hb)).trans e)
 refine wpAny_pure ⟨plainId_quiet PySem.F.plain_extend_loop _, key _ _ _ ?_ (fun b o hb e => oth b o hb (ext b o e)) hS₃⟩
 exact W.frame 0 _ _ st fun b hb o e => oth b o (fun z => hSf (z ▸ hb)) e
theorem collect_set {Q : List Value → Shared → Prop} (hh : A.handled = none) (ho : s.heap.get? a = some o) (hex : o.ExactSet) (hd : o.data = .set es ep t) (hf : t.fits es.size = true) (hl : t.led = !(w.params.followText "set-order")) (hp : 0 < es.size → t.plain = false) (hb : es.size < scanBound)
  (hQ : ∀ h' tk d vs, s.heap.objs.size ≤ h'.objs.size → (∀ b o, s.heap.get? b = some o → h'.get? b = some o) → vs.Perm (es.toList.map (·.2)) → Q vs { s with heap := h', toks := tk, drawn := d }) : wpAny (model prog w) A (collect (.ref a)) Q E s := by
 have hlt := Heap.lt_size ho
 unfold collect
 refine wpAny_bind (wpAny_runValue (codeAny_builtin F.entry_proto_collect ?_))
 rw [Around.under_plainId F.plain_proto_collect _]
 show wpAny _ A.in1 (newList [] >>= fun l => again (.builtin "list.__iadd__" ⟨[l, .ref a], []⟩)) _ _ s
 refine wpAny_bind (wpAny_newObj_type ?_)
 refine wpAny_pure ⟨plainId_quiet F.plain_list_iadd _, codeAny_builtin F.entry_list_iadd ?_⟩
 rw [Around.under_plainId F.plain_list_iadd _]
 have hS : (s.heap.push { cls := .type "list", data := .seq ([] : List Value).toArray }).get? s.heap.objs.size = some { cls := .type "list", data := .seq #[] } := Heap.get?_push_size _ rfl
 show wpAny _ A.in1 (Builtin.List.listExtendWith (.ref s.heap.objs.size) (.ref a) (.ref s.heap.objs.size)) _ _ _
 let R : Result → Shared → Prop := fun res s' => ∃ (h' : Heap) (tk : Nat) (d : Drawn) (acc : Array Value) (c : Nat), res = .ok (.ret (.ref s.heap.objs.size)) ∧ s' = { s with heap := h', toks := tk, drawn := d } ∧ (∀ b o, s.heap.get? b = some o → h'.get? b = some o) ∧ h'.get? s.heap.objs.size = some { cls := .type "list", dict := none, data := .seq acc c, slots := #[] } ∧ acc.toList.Perm (es.toList.map (·.2))
 refine wpAny_mono (set_extend (A := A) (R := R) (s := { s with heap := s.heap.push { cls := .type "list", data := .seq ([] : List Value).toArray } }) hh (Heap.get?_push_of_some _ ho) hex hd hf hl hp hb s.heap.objs.size (Nat.ne_of_gt hlt) (.ref s.heap.objs.size) hS (fun h' tk d acc' c' hk hS' hacc => ⟨h', tk, d, acc', c', rfl, rfl, fun b o e => hk b o (Nat.ne_of_lt (Heap.lt_size e)) (Heap.get?_push_of_some _ e), hS', hacc⟩)) (fun f s' hf => ?_) (fun e s' he => ?_)
 ·cases f with
  | done fl =>
   obtain ⟨h', tk, d, acc, c, e, rfl, kp, hS', it⟩ := hf
   cases e
   exact wpAny_bind (wpAny_load hS' (wpAny_pure (hQ h' tk d acc.toList (Nat.le_of_lt (Heap.lt_size hS')) kp it)))
  | again c' =>
   refine ⟨hf.1, codeAny_mono hf.2 fun res s2 hr => ?_⟩
   obtain ⟨h', tk, d, acc, c, e, rfl, kp, hS', it⟩ := hr
   cases e
   exact wpAny_bind (wpAny_load hS' (wpAny_pure (hQ h' tk d acc.toList (Nat.le_of_lt (Heap.lt_size hS')) kp it)))
 ·obtain ⟨_, _, _, _, _, z, _⟩ := he
  cases z
theorem sorted_set {Q : Value → Shared → Prop} {ks : List Str} (hh : A.handled = none) (hS : TxSet prog w s.heap a ks) (h64 : ks.length < 64)
  (h : ∀ (l : Addr) (h' : Heap) (tk e : Nat) (d : Drawn) (out : Array Value) (ms : List Str), s.heap.objs.size ≤ l → (∀ b o, s.heap.get? b = some o → h'.get? b = some o) → h'.get? l = some (seqObj "list" out e) → StrsAre out.toList ms → ms.Perm ks → sortedS ms = true → Q (.ref l) { s with heap := h', toks := tk, drawn := d }) :
  wpAny (model prog w) A (call (.builtin "sorted") [.ref a]) Q E s := by
 obtain ⟨⟨o, es, ep, t, ord, ho, hex, hd, hel, ha, hpo, hb, hf, hl, hpl⟩, nd⟩ := hS
 have lo : es.size = ks.length := by
  have l1 := texts_len ha
  rw [List.length_map, Array.length_toList] at l1
  rw [l1, hpo.length_eq]
 have pl : 0 < es.size → t.plain = false := fun z => hpl fun e => by rw [lo, e] at z; exact absurd z (Nat.lt_irrefl _)
 refine Calls.call_function_entry kind_sorted plain_sorted entry_sorted (args_sorted1 _) ?_
 unfold Builtin.«sorted»
 refine wpAny_bind (m := checkCount "sorted" 1 1 _) (wpAny_pure ?_)
 refine wpAny_bind (collect_set hh ho hex hd hf hl pl hb fun h1 tk d vs sz kp it => ?_)
 obtain ⟨ss, hA, ps⟩ := strs_perm it ha
 have l64 : vs.length < 64 := by rw [texts_len hA, ps.length_eq, hpo.length_eq]; exact h64
 refine wpAny_bind (wpAny_newList ?_)
 have hoL : (h1.push (seqObj "list" vs.toArray 0)).get? h1.objs.size = some (seqObj "list" vs.toArray 0) := Heap.get?_push_size _ rfl
 refine wpAny_bind (wpAny_holding (wpAny_call_entry slot_list_sort ⟨_, hoL, rfl⟩ entry_list_sort (list_sort_treeK strKind_oneLt hoL hA.keysOf (fun v₁ v₂ rest e => keyKind_strs (by rw [← e]; exact hA)) l64 fun st' hp hs => ⟨_, rfl, ?_⟩) (args_list_sort _)))
 obtain ⟨ms, a1, a2, a3⟩ := sorted_out_str hA hp hs
 obtain ⟨e, he⟩ := sortedHeap_at (out := (arrOf st').map (·.2)) hoL
 exact wpAny_pure ⟨_, rfl, h h1.objs.size _ tk e d _ ms sz (fun b o z => sortedHeap_keeps (kp b o z)) he a1 ((a2.trans ps).trans hpo) a3⟩
end
section
variable {X : Cx} {K : PySem.W.Frag}
theorem call_sortedX (hc : X.calm = true) : CallR X (.builtin "sorted") (fun xs H Q => ∃ (p : Addr) (ks : List Str), xs = [.ref p] ∧ H p = some (txO X.prog X.w p ks) ∧ ks.length < 64 ∧ ∀ (l : Addr) (ms : List Str), H l = none → ms.Perm ks → sortedS ms = true → Q (.ref l) (upd H l (.lst (ms.map V.str)))) := by
 intro pins s σ H xs us Q I r h
 obtain ⟨p, ks, rfl, hp, h64, q⟩ := h
 obtain ⟨u, rfl, ru⟩ := vals1 r
 cases ru
 have hx : TxSet X.prog X.w s.heap p ks := (I.hok p _ hp).1
 refine sorted_set (I.ok.hd hc) hx h64 fun l h' tk e d out ms lsz kp he a1 a2 a3 => ?_
 have lm := texts_len a1
 have lp := a2.length_eq
 have J := I.laid (t' := tk) (o := .lst (ms.map V.str)) (a := l) kp lsz ⟨by rw [List.length_map]; exact small_line (by omega), out.toList, e, vals_texts a1, he⟩
 exact ⟨.ref l, _, ⟨J.ok, J.os, J.bare, J.base, J.loc, J.cell, J.free, J.freeC, J.pin, J.hok, J.len⟩, rfl, q _ ms (I.hok.fresh lsz) a2 a3⟩
end
end L2
set_option Elab.async false
set_option linter.all false
set_option maxRecDepth 100000
set_option maxHeartbeats 4000000
namespace L2
open PySem PySem.Spec PyProof.Rows
structure Dy (P : Program) (w : World) (K : PySem.W.Frag) (mg : Str → Option Value) (base : Heap) (CX : CXT) (k : Nat) (m : Str) (ps : List Str) {ι : Type} (C : ι → Addr) (sp : ι → Sp) : Prop where
 cls : ∀ i, Cls K (C i)
 fn : ∀ i, ∃ (f : Addr) (fd : FuncData), Meth K (C i) m f ∧ FnOk P w K mg base CX k f fd ps (sp i) ∧ Binds K fd ps []
def tDyn {ι : Type} (C : ι → Addr) (m : Str) (sp : ι → Sp) (E : XK) (ta : TE) (t : TA) : TE := fun σ H Q => ta σ H fun x H1 => ∃ (i : ι) (a dx : Addr) (fs : List (Str × V)), x = .ref a ∧ H1 a = some (.ins (C i) dx fs) ∧ fs.lookup m = none ∧
 t σ H1 fun vs H2 => sp i (x :: vs) H2 Q E
def tDynX {ι : Type} (C : ι → Addr) (m : Str) (sp : ι → Sp) (ex : St → XK) (ta : TE) (t : TA) : TE := fun σ H Q => ta σ H fun x H1 => ∃ (i : ι) (a dx : Addr) (fs : List (Str × V)), x = .ref a ∧ H1 a = some (.ins (C i) dx fs) ∧ fs.lookup m = none ∧
 t σ H1 fun vs H2 => sp i (x :: vs) H2 Q (ex σ)
section
variable {X : Cx} {CX : CXT} {k : Nat} {ps : List Str} {ι : Type} {C : ι → Addr} {sp : ι → Sp} {E : XK} {m : Str} {pos apos : Pos} {e o : Expr} {es : List Expr} {ta : TE} {t : TA}
theorem pe_dynG {pl : Sem Bool} (D : Dy X.prog X.w X.K X.mg X.base CX k m ps C sp) (hx : Passes CX X E) (hr : Room k X.A) (he : PE X o ta) (ha : PA X (e :: es) t)
  (hst : starEach (e :: es) X.env = (false, eval e X.env) :: starEach es X.env := by rfl) (hpl : (backTo pos (starEach es X.env)).any (·.1) = false := by rfl)
  (ht : eval (.Call (.Attribute o m apos) (e :: es) [] pos) X.env = (do
   let ov ← eval o X.env
   standAt apos.atName
   let (f, first) ← holding [ov] (getMethod ov m pl)
   callWith pos f first (backTo pos (starEach (e :: es) X.env)) (backToKw pos (keywordEach [] X.env))) := by rfl) :
  PE X (.Call (.Attribute o m apos) (e :: es) [] pos) (tDyn C m sp E ta t) := by
 intro pins s σ H Q I h
 refine PySem.W.methodCall_KW (pl := pl) (thn (he pins s σ H _ I h) fun u s1 ⟨x, H1, I1, rx, i, a, dx, fs, ex, ea, l, q⟩ => ?_) ht
 subst ex
 obtain rfl : u = Value.ref a := rx
 obtain ⟨f, fd, hm, F, hb⟩ := D.fn i
 refine getmeth_ok I1 ea (D.cls i) hm l ?_
 refine PySem.W.callWith_K (first := [.ref a]) (h₀ := X.base) I.ok.mod.kin hm.kp (thn (ha pos pins s1 σ H1 _ I1 q) fun us s2 ⟨vs, H2, I2, r, q2⟩ => ⟨I2.kIn, ?_⟩) hst hpl
 exact run_fn (us := .ref a :: us) (vs := .ref a :: vs) F hr hb .nil hx I2 (.cons rfl r) (by rw [List.append_nil]; exact q2)
theorem pe_dynG0 {pl : Sem Bool} (D : Dy X.prog X.w X.K X.mg X.base CX k m ps C sp) (hx : Passes CX X E) (hr : Room k X.A) (he : PE X o ta)
  (ht : eval (.Call (.Attribute o m apos) [] [] pos) X.env = (do
   let ov ← eval o X.env
   standAt apos.atName
   let (f, first) ← holding [ov] (getMethod ov m pl)
   callWith pos f first (backTo pos (starEach [] X.env)) (backToKw pos (keywordEach [] X.env))) := by rfl) :
  PE X (.Call (.Attribute o m apos) [] [] pos) (tDyn C m sp E ta tNil) := by
 intro pins s σ H Q I h
 refine PySem.W.methodCall_KW (pl := pl) (thn (he pins s σ H _ I h) fun u s1 ⟨x, H1, I1, rx, i, a, dx, fs, ex, ea, l, q⟩ => ?_) ht
 subst ex
 obtain rfl : u = Value.ref a := rx
 obtain ⟨f, fd, hm, F, hb⟩ := D.fn i
 refine getmeth_ok I1 ea (D.cls i) hm l ?_
 exact PySem.W.callWith_K0 (first := [.ref a]) I1.kIn hm.kp (run_fn (us := [.ref a]) (vs := [.ref a]) F hr hb .nil hx I1 (.cons rfl .nil) q)
theorem pe_dynX {ex : St → XK} {pl : Sem Bool} (D : Dy X.prog X.w X.K X.mg X.base (CX1 X.prog X.w) k m ps C sp) (hex : X.ex = []) (hr : Room k X.A) (he : PE (X.wish (XW X ex)) o ta) (ha : PA (X.wish (XW X ex)) (e :: es) t)
  (hst : starEach (e :: es) X.env = (false, eval e X.env) :: starEach es X.env := by rfl) (hpl : (backTo pos (starEach es X.env)).any (·.1) = false := by rfl)
  (ht : eval (.Call (.Attribute o m apos) (e :: es) [] pos) X.env = (do
   let ov ← eval o X.env
   standAt apos.atName
   let (f, first) ← holding [ov] (getMethod ov m pl)
   callWith pos f first (backTo pos (starEach (e :: es) X.env)) (backToKw pos (keywordEach [] X.env))) := by rfl) :
  PE (X.wish (XW X ex)) (.Call (.Attribute o m apos) (e :: es) [] pos) (tDynX C m sp ex ta t) := by
 intro pins s σ H Q I h
 refine PySem.W.methodCall_KW (pl := pl) (thn (he pins s σ H _ I h) fun u s1 ⟨x, H1, I1, rx, i, a, dx, fs, e1, ea, l, q⟩ => ?_) ht
 subst e1
 obtain rfl : u = Value.ref a := rx
 obtain ⟨f, fd, hm, F, hb⟩ := D.fn i
 refine getmeth_ok I1 ea (D.cls i) hm l ?_
 refine PySem.W.callWith_K (first := [.ref a]) (h₀ := X.base) I.ok.mod.kin hm.kp (thn (ha pos pins s1 σ H1 _ I1 q) fun us s2 ⟨vs, H2, I2, r, q2⟩ => ⟨I2.kIn, ?_⟩) hst hpl
 exact run_x (us := .ref a :: us) (vs := .ref a :: vs) hex F hr hb I2 (.cons rfl r) (by rw [List.append_nil]; exact q2)
theorem pe_dyn {pl : Sem Bool} (D : Dy X.prog X.w X.K X.mg X.base CX0 k m ps C sp) (hr : Room k X.A) (he : PE X o ta) (ha : PA X (e :: es) t)
  (hst : starEach (e :: es) X.env = (false, eval e X.env) :: starEach es X.env := by rfl) (hpl : (backTo pos (starEach es X.env)).any (·.1) = false := by rfl)
  (ht : eval (.Call (.Attribute o m apos) (e :: es) [] pos) X.env = (do
   let ov ← eval o X.env
   standAt apos.atName
   let (f, first) ← holding [ov] (getMethod ov m pl)
   callWith pos f first (backTo pos (starEach (e :: es) X.env)) (backToKw pos (keywordEach [] X.env))) := by rfl) :
  PE X (.Call (.Attribute o m apos) (e :: es) [] pos) (tDyn C m sp E0 ta t) := pe_dynG D pass0 hr he ha hst hpl ht
theorem pe_dyn0 {pl : Sem Bool} (D : Dy X.prog X.w X.K X.mg X.base CX0 k m ps C sp) (hr : Room k X.A) (he : PE X o ta)
  (ht : eval (.Call (.Attribute o m apos) [] [] pos) X.env = (do
   let ov ← eval o X.env
   standAt apos.atName
   let (f, first) ← holding [ov] (getMethod ov m pl)
   callWith pos f first (backTo pos (starEach [] X.env)) (backToKw pos (keywordEach [] X.env))) := by rfl) :
  PE X (.Call (.Attribute o m apos) [] [] pos) (tDyn C m sp E0 ta tNil) := pe_dynG0 D pass0 hr he ht
end
section
variable {P : Program} {w : World} {K : PySem.W.Frag} {mg : Str → Option Value} {base : Heap} {N : List Str} {qual : Str} {scope : Scope} {f : Addr} {cd : Value} {A : Around} {outer : List Env} {s0 : Shared} {H0 : Hp} {E : XK}
 {k : Nat} {ps : List Str} {ι : Type} {C : ι → Addr} {sp : ι → Sp} {m : Str} {pos apos : Pos} {e o : Expr} {es : List Expr} {ta : TE} {t : TA}
theorem pe_dyn1 {pl : Sem Bool} (D : Dy P w K mg base (CX1 P w) k m ps C sp) (hr : Room k (cxOf (CX1 P w) P w K mg base N qual scope f cd A outer s0 H0 E).A)
  (ho : PE (cxOf (CX1 P w) P w K mg base N qual scope f cd A outer s0 H0 E) o ta) (ha : PA (cxOf (CX1 P w) P w K mg base N qual scope f cd A outer s0 H0 E) (e :: es) t)
  (hst : starEach (e :: es) (cxOf (CX1 P w) P w K mg base N qual scope f cd A outer s0 H0 E).env = (false, eval e (cxOf (CX1 P w) P w K mg base N qual scope f cd A outer s0 H0 E).env) :: starEach es (cxOf (CX1 P w) P w K mg base N qual scope f cd A outer s0 H0 E).env := by rfl)
  (hpl : (backTo pos (starEach es (cxOf (CX1 P w) P w K mg base N qual scope f cd A outer s0 H0 E).env)).any (·.1) = false := by rfl)
  (ht : eval (.Call (.Attribute o m apos) (e :: es) [] pos) (cxOf (CX1 P w) P w K mg base N qual scope f cd A outer s0 H0 E).env = (do
   let ov ← eval o (cxOf (CX1 P w) P w K mg base N qual scope f cd A outer s0 H0 E).env
   standAt apos.atName
   let (fv, first) ← holding [ov] (getMethod ov m pl)
   callWith pos fv first (backTo pos (starEach (e :: es) (cxOf (CX1 P w) P w K mg base N qual scope f cd A outer s0 H0 E).env)) (backToKw pos (keywordEach [] (cxOf (CX1 P w) P w K mg base N qual scope f cd A outer s0 H0 E).env))) := by rfl) :
  PE (cxOf (CX1 P w) P w K mg base N qual scope f cd A outer s0 H0 E) (.Call (.Attribute o m apos) (e :: es) [] pos) (tDyn C m sp E ta t) := pe_dynG D pass1 hr ho ha hst hpl ht
end
section
variable {X : Cx}
theorem op_gt_str : OpR X (compareOp .Gt) (fun x y H Q => ∃ i j, x = .str i ∧ y = .str j ∧ Q (.bl (decide (j.cps.toList < i.cps.toList))) H) := by
 intro pins s σ H x y v u Q I rx ry h
 obtain ⟨i, j, rfl, rfl, q⟩ := h
 obtain ⟨t, rfl⟩ := rx
 obtain ⟨t', rfl⟩ := ry
 exact P.gt_str (fin_bl I q rfl)
theorem op_ge_str : OpR X (compareOp .GtE) (fun x y H Q => ∃ i j, x = .str i ∧ y = .str j ∧ Q (.bl (!decide (i.cps.toList < j.cps.toList))) H) := by
 intro pins s σ H x y v u Q I rx ry h
 obtain ⟨i, j, rfl, rfl, q⟩ := h
 obtain ⟨t, rfl⟩ := rx
 obtain ⟨t', rfl⟩ := ry
 exact P.ge_str (fin_bl I q rfl)
theorem mt_indexL : MtM X "list.index" (fun x vs H Q => ∃ (l : Addr) (ys : List Str) (y : Str) (j : Nat), x = .ref l ∧ vs = [.str y] ∧ H l = some (.lst (ys.map V.str)) ∧ ys.length ≤ 1000 ∧ ys[j]? = some y ∧ (∀ i, i < j → ys[i]? ≠ some y) ∧ Q (.int j) H) := by
 intro pins s σ H x vs v us Q I rx rv h
 obtain ⟨l, ys, y, j, rfl, rfl, hH, few, hj, hno, q⟩ := h
 cases rx
 obtain ⟨u, rfl, ru⟩ := rv.one
 obtain ⟨t, rfl⟩ := ru
 obtain ⟨z, its, n, r, hl, e⟩ := I.lstM hH
 have hI := strs_of r
 have len := r.length
 rw [List.length_map] at len
 have jlt : j < ys.length := (List.getElem?_eq_some_iff.mp hj).1
 have at_ : ∀ (i : Nat) (h : i < its.length), ∃ (y' : Str) (t' : Tok), ys[i]? = some y' ∧ its[i] = .str y' t' := fun i h => by
  have hi : i < ys.length := by omega
  obtain ⟨w, hw, rw'⟩ := r.get (i := i) (x := .str ys[i]) (by rw [List.getElem?_map, List.getElem?_eq_getElem hi]; rfl)
  obtain ⟨t', et⟩ := rw'
  rw [List.getElem?_eq_getElem h] at hw
  exact ⟨ys[i], t', List.getElem?_eq_getElem hi, (Option.some.inj hw).trans et⟩
 refine call_meets F.slot_list_index ⟨_, e, rfl⟩ F.entry_list_index (F.args_list_index_2 _ _)
  (SeqAt.list_indexAt l its.toArray n _ _ (.str y t) (fun v => Value.isStrOf y v) j (by simp; omega) (by omega) ?_ ?_) ⟨e, ?_, ?_⟩
 ·obtain ⟨y', t', e1, e2⟩ := at_ j (by omega)
  rw [hj] at e1
  cases e1
  simp only [List.getElem_toArray, e2]
  simp [Value.isStrOf]
 ·intro m hm hlt
  have hm' : m < its.length := by simpa using hm
  obtain ⟨y', t', e1, e2⟩ := at_ m hm'
  have ne := hno m hlt
  rw [e1] at ne
  simp only [List.getElem_toArray, e2]
  simp only [Value.isStrOf, beq_eq_false_iff_ne, ne_eq]
  exact fun z => ne (by rw [z])
 ·intro v hv
  obtain ⟨i, hi, ei⟩ := List.mem_iff_getElem.mp (show v ∈ its by simpa using hv)
  obtain ⟨y', t', e1, e2⟩ := at_ i hi
  rw [ei] at e2
  subst e2
  have := eqAt_V (A := X.A.in1) (s := s) (y := .str y') (x := .str y) ⟨t', rfl⟩ ⟨t, rfl⟩ rfl rfl
  have e3 : Value.isStrOf y (.str y' t') = eqV (.str y') (.str y) := by
   simp only [Value.isStrOf, eqV]
  rw [e3]
  exact this
 ·exact ⟨.int j, H, I.tok _, ⟨_, rfl⟩, q⟩
end
end L2
set_option Elab.async false
set_option linter.all false
set_option maxRecDepth 100000
set_option maxHeartbeats 4000000
namespace L2
open PySem PySem.Spec PyProof.Rows
theorem lk_list_keys : typeLookup (.type "list") "keys" = pure none := by rw [typeLookup_type, builtinLookup_eq_fast]; kernel_rfl
section
variable {P : Program} {w : World} {A : Around} {E : Value → Shared → Prop} {s : Shared} {a : Addr} {o : Obj} {xs : Array Value} {n : Nat}
theorem no_keysL {Q : Option Value → Shared → Prop} (hx : s.heap.get? a = some { cls := .type "list", data := .seq xs n }) (hA : A.handled = none)
  (q : ∀ h' tk, (∀ b u, s.heap.get? b = some u → h'.get? b = some u) → Q none { s with heap := h', toks := tk }) : wpAny (model P w) A (getAttr? (.ref a) "keys") Q E s := by
 obtain ⟨hp, g, d, tk, os⟩ := s
 have ty : ∀ tk', (⟨hp, g, d, tk', os⟩ : Shared).TypeIs (.ref a) "list" := fun _ => ⟨_, hx, rfl⟩
 have z1 := sub_AttributeError
 have z3 := F.slot_list_getattribute.lookup
 have z4 := F.slot_list_getattribute.bind (.ref a)
 have z5 := am_list_getattr_none
 unfold getAttr? getAttrBy? getAttrBy
 repeat (any_goals (first | assumption | exact ty _ | ((with_reducible show wpAny _ _ (call (Value.builtin "list.__getattribute__") _ _) _ _ _); refine call_meets F.slot_list_getattribute (ty _) am_entry_list_getattribute (F.args_list_getattribute_2 _ _) (meets_getattribute_miss_list a xs n #[] "keys" _ lk_list_keys (by decide) (small_line (by decide +kernel))) ⟨hx, hA, fun h' tk2 e hx' => ?_⟩) | wp_step))
 obtain ⟨t1, u1, he⟩ := hx'.there
 show wpAny _ _ (getattributeRaised _ _ _ _ _ _ _) _ _ _
 unfold getattributeRaised
 repeat (any_goals (first | assumption | wp_step))
 exact q _ _ hx'.keeps
end
section
variable {X : Cx}
theorem call_dictL (hc : X.calm = true) : CallR X (.type "dict") (fun xs H Q => ∃ (p : Addr) (qs : List Addr) (kvs : List (Key × V)), xs = [.ref p] ∧ H p = some (.lst (qs.map V.ref)) ∧ kvs.length = qs.length ∧ qs.length ≤ 1000 ∧
  (kvs.map (·.1)).Nodup ∧ (∀ (i : Nat) (q : Addr) (kx : Key × V), qs[i]? = some q → kvs[i]? = some kx → H q = some (.tup [kV kx.1, kx.2])) ∧ ∀ l, H l = none → Q (.ref l) (upd H l (.dK kvs))) := by
 intro pins s σ H xs us Q I r h
 obtain ⟨p, qs, kvs, rfl, hp, hlen, few, nd, prs, q⟩ := h
 obtain ⟨u, rfl, rx⟩ := vals1 r
 obtain rfl : u = Value.ref p := rx
 obtain ⟨hz, its, n, rv, ho⟩ := (show ObjOk X.prog X.w H s.heap p (.lst (qs.map V.ref)) from I.hok _ _ hp)
 obtain ⟨vs, kv, pa⟩ := pairs_at I.hok hlen prs
 have vlen : vs.length = qs.length := by rw [← hlen]; exact (Paired.length kv).symm
 have keys : vs.map (·.1) = kvs.map (·.1) := by
  clear pa nd prs q hlen vlen few
  induction kv with
  | nil => rfl
  | cons a _ ih => rw [List.map_cons, List.map_cons, ih, a.1]
 have hh := I.ok.hd hc
 let d := s.heap.objs.size
 let o0 : Obj := { cls := .type "dict", data := .dict #[] }
 refine callType_codes (Q₁ := fun x s₁ => x = .ref d ∧ s₁ = { s with heap := s.heap.push o0 }) PySem.F.kt_called_dict (PySem.F.kt_typeCall_dict_1 _) PySem.F.entry_dict_init (kt_code_dict_new _ ⟨rfl, rfl⟩) ?_
 rintro x s₁ ⟨rfl, rfl⟩
 have D0 : (s.heap.push o0).DictOf (mixKind X.prog X.w) d [] := Heap.DictOf.new s.heap
 refine ⟨D0.typeIs, PySem.F.args_dict_init_2 _ _, ?_⟩
 unfold Builtin.«dict.__init__»
 refine wpAny_bind ?_
 unfold Builtin.Dict.selfAndRest
 refine wpAny_bind (wpAny_notOrdered_dict D0.typeIs ?_)
 show wpAny _ _ (pure (d, [Value.ref p])) _ _ _
 refine wpAny_pure ?_
 show wpAny _ _ (Builtin.Dict.updateFrom "dict.__init__" d (.ref p) [] .none) _ _ _
 unfold Builtin.Dict.updateFrom
 have hp1 : (s.heap.push o0).get? p = some { cls := .type "list", data := .seq its.toArray n } := Heap.get?_push_of_some _ ho
 refine wpAny_bind (wpAny_typeOf (T := "list") ⟨_, hp1, rfl⟩ ?_)
 rw [if_pos (by decide)]
 refine wpAny_bind (no_keysL hp1 (by simpa using hh) fun h2 tk2 kp2 => ?_)
 rw [if_pos (show (none : Option Value).isNone = true from rfl)]
 refine wpAny_bind (wpAny_rule ?_)
 have hp2 : h2.IsList p its.toArray := ⟨_, kp2 _ _ hp1, rfl, n, rfl⟩
 refine wpAny_bind (wpAny_pyIter_list hp2 ?_)
 have dlt : d < h2.objs.size := let ⟨o, es, ep, ho, _⟩ := D0; Heap.lt_size (kp2 _ _ ho)
 have plt : p < s.heap.objs.size := Heap.lt_size ho
 have ne : p ≠ h2.objs.size := Nat.ne_of_lt (Heap.lt_size (kp2 _ _ hp1))
 have W := Walks.list (prog := X.prog) (w := X.w) (A := X.A.in1.in1) (by simpa using hh) h2.objs.size p ne its.toArray
 have il : its.length = qs.length := by rw [← rv.length, List.length_map]
 have itq : ∀ (i : Nat) (v : Value), its.toArray[i]? = some v → (qs[i]?).map Value.ref = some v := fun i v e => by
  have e' : its[i]? = some v := by simpa using e
  have hi : i < qs.length := by rw [← il]; exact (List.getElem?_eq_some_iff.mp e').1
  obtain ⟨v', e2, rel⟩ := rv.get (x := V.ref qs[i]) (i := i) (by rw [List.getElem?_map, List.getElem?_eq_getElem hi]; rfl)
  rw [e'] at e2
  cases e2
  obtain rfl : v = Value.ref qs[i] := rel
  rw [List.getElem?_eq_getElem hi]
  rfl
 have W2 : Walks X.prog X.w X.A.in1.in1 h2.objs.size [h2.objs.size, p] [h2.objs.size] qs.length (fun i v => (qs[i]?).map Value.ref = some v) (fun i h => h.IsListIter h2.objs.size p i ∧ h.IsList p its.toArray) := by
  rw [show its.toArray.size = qs.length by simp [il]] at W
  exact ⟨W.sub, W.frame, fun i s Q E hi st k => W.item i s Q E hi st fun v h' tk e st' kp => k v h' tk (itq i v e) st' kp, W.done, W.self⟩
 refine wpAny_pure ⟨plainId_quiet pln_dict_loop _, loop_dict (knd := mixKind X.prog X.w) (kvs := vs) W2 (fun z => ?_) (Nat.ne_of_lt dlt) vlen few (by rw [keys]; exact nd) (qs.length - 0) 0 _ _ (by omega) (Nat.zero_le _)
  ⟨⟨_, Heap.get?_push_size _ rfl, rfl, rfl⟩, hp2.push _⟩ ?_ (fun j q0 kx e1 e2 => ?_) fun h3 tk3 kp3 D3 => ?_⟩
 ·rcases List.mem_cons.mp z with z | z
  ·exact Nat.ne_of_lt dlt z
  ·exact Nat.ne_of_gt plt (List.mem_singleton.mp z)
 ·obtain ⟨o1, es, ep, ho1, r1⟩ := D0
  exact ⟨o1, es, ep, Heap.get?_push_of_some _ (kp2 _ _ ho1), r1⟩
 ·obtain ⟨o1, key, n1, ho1, r1⟩ := pa j q0 kx e1 e2
  have l1 := Heap.lt_size ho1
  have g1 := kp2 _ _ (Heap.get?_push_of_some o0 ho1)
  exact ⟨⟨o1, key, n1, Heap.get?_push_of_some _ g1, r1⟩, Nat.ne_of_lt (Heap.lt_size g1), Nat.ne_of_lt l1⟩
 ·refine ⟨rfl, .ref d, _, I.laid (h' := h3) (t' := tk3) (fun b u e => ?_) (Nat.le_refl _) (show ObjOk X.prog X.w _ h3 d (.dK kvs) from ⟨?_, ?_, vs, kv, D3⟩), rfl, q _ (I.hok.fresh (Nat.le_refl _))⟩
  ·have g1 := kp2 _ _ (Heap.get?_push_of_some o0 e)
   exact kp3 b u (Nat.ne_of_lt (Heap.lt_size e)) (Nat.ne_of_lt (Heap.lt_size g1)) (Heap.get?_push_of_some _ g1)
  ·rw [hlen]
   exact small_line (by omega)
  ·exact beq_eq_false_iff_ne.mpr (Nat.ne_of_gt I.big)
theorem call_dictC : CallR X (.type "dict") (fun xs H Q => ∃ (p : Addr) (kvs : List (Key × V)), xs = [.ref p] ∧ H p = some (.dK kvs) ∧ ∀ l, H l = none → Q (.ref l) (upd H l (.dK kvs))) := by
 intro pins s σ H xs us Q I r h
 obtain ⟨p, kvs, rfl, hp, q⟩ := h
 obtain ⟨u, rfl, rx⟩ := vals1 r
 obtain rfl : u = Value.ref p := rx
 exact d_copyOf I (.inl hp) fun l s' hl I' => ⟨.ref l, _, I', rfl, q l hl⟩
end
section
variable {P : Program} {w : World} {A : Around} {E : Value → Shared → Prop} {s : Shared} {κ : Type} [DecidableEq κ] {knd : PySem.KeyKind P w κ} {a b : Addr}
theorem same_pairs {nm : String} {kvs kws : List (κ × Value)} {Q : Bool → Shared → Prop} (ha : (a == sysModules) = false) (hb : (b == sysModules) = false) (d1 : s.heap.DictOf knd a kvs) (d2 : s.heap.DictOf knd b kws) (ek : kvs.map (·.1) = kws.map (·.1))
  (ev : ∀ (i : Nat) (p q : κ × Value), kvs[i]? = some p → kws[i]? = some q → SeqAt.EqAt A s p.2 q.2 true) (h : Q true s) : wpAny (model P w) A (Builtin.Dict.samePairs nm a b) Q E s := by
 obtain ⟨o1, es1, ep1, ho1, hc1, hd1, hk1, hp1, hn1⟩ := d1
 obtain ⟨o2, es2, ep2, ho2, hc2, hd2, hk2, hp2, hn2⟩ := d2
 have l1 : es1.size = kvs.length := by rw [← hp1.length]; simp
 have l2 : es2.size = kws.length := by rw [← hp2.length]; simp
 have l3 : kvs.length = kws.length := by have := congrArg List.length ek; simpa using this
 unfold Builtin.Dict.samePairs Builtin.Dict.showsAll
 rw [if_neg (by rw [ha]; exact Bool.false_ne_true)]
 refine wpAny_bind (wpAny_pure ?_)
 rw [if_neg (by rw [hb]; exact Bool.false_ne_true)]
 refine wpAny_bind (wpAny_pure ?_)
 refine wpAny_bind (wpAny_dictEntries ho1 hd1 ?_)
 refine wpAny_bind (wpAny_dictEntries ho2 hd2 ?_)
 rw [if_neg (by rw [l1, l2, l3]; simp)]
 refine wpAny_bind (wpAny_dictEpoch ho1 hd1 ?_)
 refine wpAny_bind ?_
 rw [Std.Legacy.Range.forIn_eq_forIn_range']
 simp only [Std.Legacy.Range.size, Nat.sub_zero, Nat.add_sub_cancel, Nat.div_one]
 refine wpAny_forIn_list _ (fun rest r s' => s' = s ∧ r.1 = none ∧ ∃ i, rest = List.range' i (es1.size - i) ∧ i ≤ es1.size) _ ?_ ?_ _ _ ⟨rfl, rfl, 0, by simp, Nat.zero_le _⟩
 ·rintro x rest r s' ⟨rfl, er, i, hr, hi⟩
  have hlt : i < es1.size := by
   rcases Nat.lt_or_ge i es1.size with h | h
   ·exact h
   ·rw [Nat.sub_eq_zero_of_le h] at hr; simp at hr
  obtain ⟨rfl, hrest⟩ : x = i ∧ rest = List.range' (i + 1) (es1.size - (i + 1)) := by
   have e : es1.size - i = (es1.size - (i + 1)) + 1 := by omega
   rw [e, List.range'_succ] at hr
   injection hr with h1 h2
   exact ⟨h1, h2⟩
  have hx1 : x < kvs.length := by omega
  have hx2 : x < kws.length := by omega
  have hx3 : x < es2.size := by omega
  refine wpAny_bind (wpAny_dictEntries ho1 hd1 ?_)
  rw [Array.getElem?_eq_getElem hlt]
  dsimp only
  obtain ⟨hkey, hval⟩ := hp1.get? (e := es1[x]) (k := kvs[x].1) (v := kvs[x].2) (by simp [hlt]) (List.getElem?_eq_getElem hx1)
  obtain ⟨hkey2, hval2⟩ := hp2.get? (e := es2[x]) (k := kws[x].1) (v := kws[x].2) (by simp [hx3]) (List.getElem?_eq_getElem hx2)
  obtain ⟨k', hkey', hhash⟩ := hk1 es1[x] (Array.getElem_mem hlt)
  obtain rfl : k' = kvs[x].1 := knd.inj _ _ _ hkey' hkey
  have ek1 : kvs[x].1 = kws[x].1 := by
   have := congrArg (fun l => l[x]?) ek
   simpa [hx1, hx2] using this
  have fnd : es2.findIdx? (fun e => knd.is kvs[x].1 e.key) = some x := by
   rw [Array.findIdx?_eq_some_iff_getElem]
   refine ⟨hx3, by rw [ek1]; exact hkey2, fun j hj => ?_⟩
   have hj3 : j < es2.size := by omega
   have hj2 : j < kws.length := by omega
   obtain ⟨hkj, _⟩ := hp2.get? (e := es2[j]) (k := kws[j].1) (v := kws[j].2) (by simp [hj3]) (List.getElem?_eq_getElem hj2)
   intro z
   have e1 : kvs[x].1 = kws[j].1 := knd.inj _ _ _ z hkj
   have e2 : (kws.map (·.1))[x]'(by simpa using hx2) = (kws.map (·.1))[j]'(by simpa using hj2) := by
    rw [List.getElem_map, List.getElem_map, ← ek1, e1]
   have := (List.getElem_inj (h₀ := by simpa using hx2) (h₁ := by simpa using hj2) hn2).mp e2
   omega
  refine wpAny_bind (wpAny_holding ?_)
  rw [hhash]
  refine wpAny_bind (wpAny_dictFind_of hkey ho2 hd2 hk2 ?_)
  rw [fnd]
  dsimp only
  refine wpAny_bind (wpAny_dictEntries ho2 hd2 ?_)
  rw [Array.getElem?_eq_getElem hx3]
  dsimp only
  refine wpAny_holding ?_
  rw [hval, hval2]
  refine ev x kvs[x] kws[x] (List.getElem?_eq_getElem hx1) (List.getElem?_eq_getElem hx2) P w _ _ ?_
  rw [if_neg (by simp)]
  refine wpAny_bind (wpAny_dictEpoch ho1 hd1 ?_)
  rw [if_neg (by simp)]
  exact wpAny_pure ⟨rfl, rfl, x + 1, hrest, hlt⟩
 ·rintro r s' ⟨rfl, er, i, hr, hi⟩
  obtain ⟨r1, r2⟩ := r
  obtain rfl : r1 = none := er
  exact wpAny_pure h
end
end L2
set_option Elab.async false
set_option linter.all false
set_option maxRecDepth 100000
set_option maxHeartbeats 4000000
namespace L2
open PySem PySem.Spec PyProof.Rows
section
variable {P : Program} {w : World} {A : Around} {E : Value → Shared → Prop} {s : Shared} {κ : Type} [DecidableEq κ] {knd : PySem.KeyKind P w κ} {a b : Addr}
theorem ne_same {kvs kws : List (κ × Value)} {Q : Value → Shared → Prop} (hu : A.units < cLine) (ha : (a == sysModules) = false) (hb : (b == sysModules) = false) (d1 : s.heap.DictOf knd a kvs) (d2 : s.heap.DictOf knd b kws) (ek : kvs.map (·.1) = kws.map (·.1))
  (ev : ∀ (A' : Around) (i : Nat) (p q : κ × Value), kvs[i]? = some p → kws[i]? = some q → SeqAt.EqAt A' s p.2 q.2 true) (h : Q (.bool false) s) : wpAny (model P w) A (compareOp .NotEq (.ref a) (.ref b)) Q E s := by
 show wpAny _ _ (richCompare .NotEq (.ref a) (.ref b)) _ _ _
 refine wpAny_richCompare_same_room d1.typeIs d2.typeIs F.slot_dict_ne (wpAny_call_entry F.slot_dict_ne d1.typeIs F.entry_dict_ne ?_ (F.args_dict_ne_2 _ _)) hu
 show wpAny _ _ (Builtin.Dict.dictSlotArgs "__ne__" ⟨[.ref a, .ref b], []⟩ >>= _) _ _ _
 refine wpAny_bind ?_
 unfold Builtin.Dict.dictSlotArgs
 refine wpAny_bind (wpAny_notOrdered_dict d1.typeIs ?_)
 show wpAny _ _ (pure (Value.ref a, Value.ref b)) _ _ _
 refine wpAny_pure ?_
 refine wpAny_bind (wpAny_isInstance (T := "dict") (b := true) d2.typeIs (by rw [isSubtype_type]; kernel_rfl) ?_)
 refine wpAny_ifn (by simp) ?_
 refine wpAny_bind (wpAny_pure ?_)
 refine wpAny_bind (wpAny_pure ?_)
 refine wpAny_bind (same_pairs ha hb d1 d2 ek (fun i p q => ev _ i p q) ?_)
 exact wpAny_pure ⟨_, rfl, (fun x => nomatch x), h⟩
end
section
variable {X : Cx}
theorem kv_at {κ : Type} {kvs : List (κ × V)} {vs : List (κ × Value)} (r : KV kvs vs) : ∀ {i : Nat} {q : κ × Value}, vs[i]? = some q → ∃ p, kvs[i]? = some p ∧ p.1 = q.1 ∧ RelV p.2 q.2 := by
 induction r with
 | nil => intro i q e; simp at e
 | cons h _ ih =>
  intro i q e
  cases i with
  | zero => cases e; exact ⟨_, rfl, h⟩
  | succ i => exact ih e
theorem kv_keys {κ : Type} {kvs : List (κ × V)} {vs : List (κ × Value)} (r : KV kvs vs) : vs.map (·.1) = kvs.map (·.1) := by
 induction r with
 | nil => rfl
 | cons a _ ih => rw [List.map_cons, List.map_cons, ih, a.1]
theorem op_neSame (hu : X.A.units < cLine) : OpR X (compareOp .NotEq) (fun x y H Q => ∃ (a b : Addr) (kvs : List (Key × V)), x = .ref a ∧ y = .ref b ∧ H a = some (.dK kvs) ∧ H b = some (.dK kvs) ∧ (∀ p ∈ kvs, flatV p.2 = true ∧ eqV p.2 p.2 = true) ∧ Q (.bl false) H) := by
 intro pins s σ H x y v u Q I rx ry h
 obtain ⟨a, b, kvs, rfl, rfl, h1, h2, fl, q⟩ := h
 obtain rfl : v = Value.ref a := rx
 obtain rfl : u = Value.ref b := ry
 obtain ⟨_, lo1, vs, kv1, d1⟩ := I.hok a _ h1
 obtain ⟨_, lo2, ws, kv2, d2⟩ := I.hok b _ h2
 refine ne_same hu lo1 lo2 d1 d2 ((kv_keys kv1).trans (kv_keys kv2).symm) (fun A' i p q e1 e2 => ?_) ⟨.bl false, H, I, rfl, q⟩
 obtain ⟨p1, f1, _, r1⟩ := kv_at kv1 e1
 obtain ⟨p2, f2, _, r2⟩ := kv_at kv2 e2
 rw [f1] at f2
 cases f2
 obtain ⟨g1, g2⟩ := fl p1 (List.mem_of_getElem? f1)
 have := eqAt_V (A := A') (s := s) r1 r2 g1 g1
 rw [g2] at this
 exact this
end
def KDV (w : World) (K : PySem.W.Frag) (a : Addr) (kvs : List (Str × Str)) : Prop :=
 ∃ (o : Obj) (es : Array DictEntry) (ep : Nat), K.lookup a = some o ∧ o.ExactDict ∧ o.data = .dict es ep ∧
  (es.toList.map fun e => (e.hash, txOf e.key, txOf e.val)) = kvs.map fun k => (hashStr w k.1, some k.1, some k.2)
theorem kdv_pairs {P : Program} {w : World} : ∀ {es : List DictEntry} {kvs : List (Str × Str)}, (es.map fun e => (e.hash, txOf e.key, txOf e.val)) = (kvs.map fun k => (hashStr w k.1, some k.1, some k.2)) →
  ∃ vs : List (Str × Value), Pairs (PySem.strKind P w) es vs ∧ KV (kvs.map fun k => (k.1, V.str k.2)) vs ∧ ∀ e ∈ es, ∃ k, (PySem.strKind P w).is k e.key = true ∧ e.hash = (PySem.strKind P w).hash k
 | [], [], _ => ⟨[], .nil, .nil, (fun _ z => nomatch z)⟩
 | [], _ :: _, h => nomatch h
 | _ :: _, [], h => nomatch h
 | e :: es, k :: kvs, h => by
  rw [List.map_cons, List.map_cons] at h
  injection h with h1 h2
  obtain ⟨vs, p, m, q⟩ := kdv_pairs (P := P) h2
  injection h1 with h3 h4
  injection h4 with h5 h6
  obtain ⟨t, ht⟩ := txOf_some h5
  have hi : (PySem.strKind P w).is k.1 e.key = true := by rw [ht]; exact strKind_is P w k.1 t
  refine ⟨(k.1, e.val) :: vs, .cons hi rfl p, .cons ⟨rfl, txOf_some h6⟩ m, fun e' he => ?_⟩
  rcases List.mem_cons.mp he with rfl | he
  ·exact ⟨k.1, hi, h3⟩
  ·exact q e' he
theorem valueAt_kv {kvs : List (Str × V)} {vs : List (Str × Value)} (r : KV kvs vs) (k : Str) : RelO (kvs.lookup k) (valueAt vs k) := by
 unfold valueAt
 induction r with
 | nil => exact trivial
 | @cons p q ps qs h _ ih =>
  rw [List.find?_cons]
  obtain ⟨p1, p2⟩ := p
  obtain ⟨q1, q2⟩ := q
  obtain ⟨e, rel⟩ := h
  dsimp only at e rel
  subst e
  rw [List.lookup_cons]
  by_cases c : p1 = k
  ·subst c
   simp only [BEq.rfl, decide_true]
   exact rel
  ·rw [show (k == p1) = false by rw [beq_eq_false_iff_ne]; exact fun z => c z.symm]
   simp only [c, decide_false]
   exact ih
section
variable {X : Cx} {a : Addr} {kvs : List (Str × Str)}
theorem kdv_look {kvs : List (Str × Str)} {k z : Str} : kvs.lookup k = some z → (kvs.map fun k => (k.1, V.str k.2)).lookup k = some (.str z) := by
 intro hl
 induction kvs with
 | nil => cases hl
 | cons q r ih =>
  obtain ⟨q1, q2⟩ := q
  rw [List.map_cons, List.lookup_cons]
  rw [List.lookup_cons] at hl
  cases hc : (k == q1) with
  | true =>
   rw [hc] at hl
   cases hl
   rfl
  | false =>
   rw [hc] at hl
   exact ih hl
theorem pe_kdv {K : PySem.W.Frag} {w : World} {o i : Expr} {pos : Pos} {td ty : TE} (hK : X.K = K) (hw : X.w = w) (h : KDV w K a kvs) (nd : (kvs.map (·.1)).Nodup) (ho : PE X o td) (hi : PE X i ty) (hs : NoSl i) :
  PE X (.Subscript o i pos) (fun σ H Q => td σ H fun x H1 => ty σ H1 fun y H2 => ∃ k v, x = .ref a ∧ y = .str k ∧ kvs.lookup k = some v ∧ Q (.str v) H2) := by
 subst hK hw
 obtain ⟨ob, es, ep, hk, hc, hd, he⟩ := h
 obtain ⟨vs, p, m, f⟩ := kdv_pairs (P := X.prog) he
 have ks : vs.map (·.1) = kvs.map (·.1) := by rw [kv_keys m, List.map_map]; rfl
 intro pins s σ H Q I h
 refine subD_of PySem.F.slot_dict_getitem.lookup hs (thn (ho pins s σ H _ I h) fun u s1 ⟨x, H1, I1, rx, q1⟩ => thn (hi pins s1 σ H1 _ I1 q1) fun iv s2 ⟨y, H2, I2, ry, k, z, ex, ey, hl, q2⟩ => ?_)
 subst ex ey
 obtain rfl : u = Value.ref a := rx
 obtain ⟨t, rfl⟩ := ry
 have hd' : s2.heap.DictAt (PySem.strKind X.prog X.w) a vs ep := ⟨ob, es, I2.kIn a ob hk, hc, hd, fun e h => f e (by simpa using h), p, by rw [ks]; exact nd⟩
 have hv := valueAt_kv m k
 rw [kdv_look hl] at hv
 cases hva : valueAt vs k with
 | none => rw [hva] at hv; exact hv.elim
 | some u =>
  rw [hva] at hv
  exact ⟨hd'.dictOf.typeIs, wpAny_getItem_of (strKind_is X.prog X.w k t) hd'.dictOf.mapOf hva ⟨.str z, H2, I2.tok _, hv, q2⟩⟩
end
end L2
set_option Elab.async false
set_option linter.all false
set_option maxRecDepth 100000
set_option maxHeartbeats 4000000
namespace K34
open PySem L2 PySem.Spec PyProof.Rows PySem.NumText
def top (i : Nat) : Stmt := PySem.Challenge.pw_planstore_k34_conditions_walked.main.body.getD i (.Pass ⟨0, 0, 0, 0⟩)
abbrev s_NoColumn___init__ : Stmt := inClass (top 2) 0
abbrev s_WrongKind___init__ : Stmt := inClass (top 3) 0
abbrev s_is_whole : Stmt := top 5
abbrev s_value_text : Stmt := top 6
abbrev s_stands : Stmt := top 12
abbrev s_kind_of_value : Stmt := top 13
abbrev s_atom_text : Stmt := top 14
abbrev s_text_within : Stmt := top 15
abbrev s_Compare___init__ : Stmt := inClass (top 17) 0
abbrev s_Compare_right_value : Stmt := inClass (top 17) 1
abbrev s_Compare_holds : Stmt := inClass (top 17) 2
abbrev s_Compare_names_as_told : Stmt := inClass (top 17) 3
abbrev s_Compare_parts : Stmt := inClass (top 17) 4
abbrev s_Compare_right_kind : Stmt := inClass (top 17) 5
abbrev s_Compare_judged : Stmt := inClass (top 17) 6
abbrev s_Compare_cleared : Stmt := inClass (top 17) 7
abbrev s_Compare_opposite : Stmt := inClass (top 17) 8
abbrev s_Compare_told : Stmt := inClass (top 17) 9
abbrev s_Compare_text : Stmt := inClass (top 17) 10
abbrev s_Compare_names_in : Stmt := inClass (top 16) 2
abbrev s_Compare_ties : Stmt := inClass (top 16) 9
abbrev s_And___init__ : Stmt := inClass (top 18) 0
abbrev s_And_holds : Stmt := inClass (top 18) 1
abbrev s_And_parts : Stmt := inClass (top 18) 2
abbrev s_And_cleared : Stmt := inClass (top 18) 3
abbrev s_And_opposite : Stmt := inClass (top 18) 4
abbrev s_And_told : Stmt := inClass (top 18) 5
abbrev s_And_text : Stmt := inClass (top 18) 6
abbrev s_And_ties : Stmt := inClass (top 18) 7
abbrev s_And_names_as_told : Stmt := inClass (top 16) 1
abbrev s_And_names_in : Stmt := inClass (top 16) 2
abbrev s_And_judged : Stmt := inClass (top 16) 4
abbrev s_Or___init__ : Stmt := inClass (top 19) 0
abbrev s_Or_holds : Stmt := inClass (top 19) 1
abbrev s_Or_parts : Stmt := inClass (top 19) 2
abbrev s_Or_cleared : Stmt := inClass (top 19) 3
abbrev s_Or_opposite : Stmt := inClass (top 19) 4
abbrev s_Or_told : Stmt := inClass (top 19) 5
abbrev s_Or_text : Stmt := inClass (top 19) 6
abbrev s_Or_ties : Stmt := inClass (top 19) 7
abbrev s_Or_names_as_told : Stmt := inClass (top 16) 1
abbrev s_Or_names_in : Stmt := inClass (top 16) 2
abbrev s_Or_judged : Stmt := inClass (top 16) 4
abbrev s_Not___init__ : Stmt := inClass (top 20) 0
abbrev s_Not_holds : Stmt := inClass (top 20) 1
abbrev s_Not_parts : Stmt := inClass (top 20) 2
abbrev s_Not_cleared : Stmt := inClass (top 20) 3
abbrev s_Not_opposite : Stmt := inClass (top 20) 4
abbrev s_Not_told : Stmt := inClass (top 20) 5
abbrev s_Not_text : Stmt := inClass (top 20) 6
abbrev s_Not_names_as_told : Stmt := inClass (top 16) 1
abbrev s_Not_names_in : Stmt := inClass (top 16) 2
abbrev s_Not_judged : Stmt := inClass (top 16) 4
abbrev s_Not_ties : Stmt := inClass (top 16) 9
abbrev s__law_cell : Stmt := top 22
abbrev s__law_mix : Stmt := top 23
abbrev s__law_numbers : Stmt := top 24
abbrev s__law_next : Stmt := top 25
abbrev s__law_words : Stmt := top 26
abbrev s__law_atom : Stmt := top 27
abbrev s__law_compare : Stmt := top 28
abbrev s__law_cond : Stmt := top 29
abbrev s__law_cond_built : Stmt := top 30
abbrev s__law_held : Stmt := top 31
abbrev s__law_plain : Stmt := top 32
abbrev s__law_compares : Stmt := top 33
abbrev s__law_fault : Stmt := top 34
abbrev s__law_atom_text : Stmt := top 35
abbrev s__law_cond_text : Stmt := top 36
abbrev s__law_columns_here : Stmt := top 37
abbrev s__law_row : Stmt := top 38
abbrev s__law_judged : Stmt := top 39
abbrev s__law_turned : Stmt := top 40
abbrev s__law_names_within : Stmt := top 41
abbrev s__law_parts_right : Stmt := top 42
abbrev s__law_right : Stmt := top 43
abbrev s_law : Stmt := top 44
def kv_OPPOSITE : List (Str × Str) := [("=", "<>"), ("<>", "="), ("<", ">="), (">=", "<"), (">", "<="), ("<=", ">")]
theorem nd_OPPOSITE : (kv_OPPOSITE.map (·.1)).Nodup := by decide +kernel
structure Txt (w : World) (K : PySem.W.Frag) (mg : Str → Option Value) where
 D_OPPOSITE : Addr
 c_OPPOSITE : mg "OPPOSITE" = some (.ref D_OPPOSITE)
 v_OPPOSITE : KDV w K D_OPPOSITE kv_OPPOSITE
 C_Compare : Addr
 c_Compare : mg "Compare" = some (.ref C_Compare)
 l_Compare : Cls K C_Compare
 n_Compare_left : NoAttr K C_Compare "left"
 n_Compare_sign : NoAttr K C_Compare "sign"
 n_Compare_right : NoAttr K C_Compare "right"
 C_And : Addr
 c_And : mg "And" = some (.ref C_And)
 l_And : Cls K C_And
 n_And_first : NoAttr K C_And "first"
 n_And_second : NoAttr K C_And "second"
 C_Or : Addr
 c_Or : mg "Or" = some (.ref C_Or)
 l_Or : Cls K C_Or
 n_Or_first : NoAttr K C_Or "first"
 n_Or_second : NoAttr K C_Or "second"
 C_Not : Addr
 c_Not : mg "Not" = some (.ref C_Not)
 l_Not : Cls K C_Not
 n_Not_inside : NoAttr K C_Not "inside"
 C_NoColumn : Addr
 c_NoColumn : mg "NoColumn" = some (.ref C_NoColumn)
 C_WrongKind : Addr
 c_WrongKind : mg "WrongKind" = some (.ref C_WrongKind)
 C_Cond : Addr
 c_Cond : mg "Cond" = some (.ref C_Cond)
 e_cc : PySem.W.exmOne K (.ref C_NoColumn) (.ref C_NoColumn) = some true
 e_wc : PySem.W.exmOne K (.ref C_WrongKind) (.ref C_NoColumn) = some false
 e_ww : PySem.W.exmOne K (.ref C_WrongKind) (.ref C_WrongKind) = some true
 q_Compare : PySem.W.kitOne K (.ref C_Compare) (.ref C_Cond) = some true
 q_And : PySem.W.kitOne K (.ref C_And) (.ref C_Cond) = some true
 q_Or : PySem.W.kitOne K (.ref C_Or) (.ref C_Cond) = some true
 q_Not : PySem.W.kitOne K (.ref C_Not) (.ref C_Cond) = some true
 NoColumn___init__ : Mx K C_NoColumn "__init__" "NoColumn.__init__" s_NoColumn___init__ ["self", "name"]
 WrongKind___init__ : Mx K C_WrongKind "__init__" "WrongKind.__init__" s_WrongKind___init__ ["self", "name"]
 is_whole : Fx K mg "is_whole" s_is_whole ["thing"]
 value_text : Fx K mg "value_text" s_value_text ["value"]
 stands : Fx K mg "stands" s_stands ["sign", "one", "other"]
 kind_of_value : Fx K mg "kind_of_value" s_kind_of_value ["value"]
 atom_text : Fx K mg "atom_text" s_atom_text ["atom"]
 text_within : Fx K mg "text_within" s_text_within ["cond", "least"]
 Compare___init__ : Mx K C_Compare "__init__" "Compare.__init__" s_Compare___init__ ["self", "left", "sign", "right"]
 Compare_right_value : Mx K C_Compare "right_value" "Compare.right_value" s_Compare_right_value ["self", "values"]
 Compare_holds : Mx K C_Compare "holds" "Compare.holds" s_Compare_holds ["self", "values"]
 Compare_names_as_told : Mx K C_Compare "names_as_told" "Compare.names_as_told" s_Compare_names_as_told ["self"]
 Compare_parts : Mx K C_Compare "parts" "Compare.parts" s_Compare_parts ["self"]
 Compare_right_kind : Mx K C_Compare "right_kind" "Compare.right_kind" s_Compare_right_kind ["self", "kinds"]
 Compare_judged : Mx K C_Compare "judged" "Compare.judged" s_Compare_judged ["self", "kinds"]
 Compare_cleared : Mx K C_Compare "cleared" "Compare.cleared" s_Compare_cleared ["self"]
 Compare_opposite : Mx K C_Compare "opposite" "Compare.opposite" s_Compare_opposite ["self"]
 Compare_told : Mx K C_Compare "told" "Compare.told" s_Compare_told ["self"]
 Compare_text : Mx K C_Compare "text" "Compare.text" s_Compare_text ["self"]
 Compare_names_in : Mx K C_Compare "names_in" "Cond.names_in" s_Compare_names_in ["self"]
 Compare_ties : Mx K C_Compare "ties" "Cond.ties" s_Compare_ties ["self"]
 And___init__ : Mx K C_And "__init__" "And.__init__" s_And___init__ ["self", "first", "second"]
 And_holds : Mx K C_And "holds" "And.holds" s_And_holds ["self", "values"]
 And_parts : Mx K C_And "parts" "And.parts" s_And_parts ["self"]
 And_cleared : Mx K C_And "cleared" "And.cleared" s_And_cleared ["self"]
 And_opposite : Mx K C_And "opposite" "And.opposite" s_And_opposite ["self"]
 And_told : Mx K C_And "told" "And.told" s_And_told ["self"]
 And_text : Mx K C_And "text" "And.text" s_And_text ["self"]
 And_ties : Mx K C_And "ties" "And.ties" s_And_ties ["self"]
 And_names_as_told : Mx K C_And "names_as_told" "Cond.names_as_told" s_And_names_as_told ["self"]
 And_names_in : Mx K C_And "names_in" "Cond.names_in" s_And_names_in ["self"]
 And_judged : Mx K C_And "judged" "Cond.judged" s_And_judged ["self", "kinds"]
 Or___init__ : Mx K C_Or "__init__" "Or.__init__" s_Or___init__ ["self", "first", "second"]
 Or_holds : Mx K C_Or "holds" "Or.holds" s_Or_holds ["self", "values"]
 Or_parts : Mx K C_Or "parts" "Or.parts" s_Or_parts ["self"]
 Or_cleared : Mx K C_Or "cleared" "Or.cleared" s_Or_cleared ["self"]
 Or_opposite : Mx K C_Or "opposite" "Or.opposite" s_Or_opposite ["self"]
 Or_told : Mx K C_Or "told" "Or.told" s_Or_told ["self"]
 Or_text : Mx K C_Or "text" "Or.text" s_Or_text ["self"]
 Or_ties : Mx K C_Or "ties" "Or.ties" s_Or_ties ["self"]
 Or_names_as_told : Mx K C_Or "names_as_told" "Cond.names_as_told" s_Or_names_as_told ["self"]
 Or_names_in : Mx K C_Or "names_in" "Cond.names_in" s_Or_names_in ["self"]
 Or_judged : Mx K C_Or "judged" "Cond.judged" s_Or_judged ["self", "kinds"]
 Not___init__ : Mx K C_Not "__init__" "Not.__init__" s_Not___init__ ["self", "inside"]
 Not_holds : Mx K C_Not "holds" "Not.holds" s_Not_holds ["self", "values"]
 Not_parts : Mx K C_Not "parts" "Not.parts" s_Not_parts ["self"]
 Not_cleared : Mx K C_Not "cleared" "Not.cleared" s_Not_cleared ["self"]
 Not_opposite : Mx K C_Not "opposite" "Not.opposite" s_Not_opposite ["self"]
 Not_told : Mx K C_Not "told" "Not.told" s_Not_told ["self"]
 Not_text : Mx K C_Not "text" "Not.text" s_Not_text ["self"]
 Not_names_as_told : Mx K C_Not "names_as_told" "Cond.names_as_told" s_Not_names_as_told ["self"]
 Not_names_in : Mx K C_Not "names_in" "Cond.names_in" s_Not_names_in ["self"]
 Not_judged : Mx K C_Not "judged" "Cond.judged" s_Not_judged ["self", "kinds"]
 Not_ties : Mx K C_Not "ties" "Cond.ties" s_Not_ties ["self"]
 _law_cell : Fx K mg "_law_cell" s__law_cell ["_law_script", "_law_k"]
 _law_mix : Fx K mg "_law_mix" s__law_mix ["_law_cell_here", "_law_k"]
 _law_numbers : Fx K mg "_law_numbers" s__law_numbers ["_law_cell_here", "_law_many"]
 _law_next : Fx K mg "_law_next" s__law_next ["_law_numbers_here"]
 _law_words : Fx K mg "_law_words" s__law_words ["_law_cell_here", "_law_many"]
 _law_atom : Fx K mg "_law_atom" s__law_atom ["_law_numbers_here", "_law_names", "_law_kind"]
 _law_compare : Fx K mg "_law_compare" s__law_compare ["_law_numbers_here", "_law_names"]
 _law_cond : Fx K mg "_law_cond" s__law_cond ["_law_numbers_here", "_law_names", "_law_deep"]
 _law_cond_built : Fx K mg "_law_cond_built" s__law_cond_built ["_law_told"]
 _law_held : Fx K mg "_law_held" s__law_held ["_law_told", "_law_values"]
 _law_plain : Fx K mg "_law_plain" s__law_plain ["_law_told", "_law_turned_here"]
 _law_compares : Fx K mg "_law_compares" s__law_compares ["_law_told"]
 _law_fault : Fx K mg "_law_fault" s__law_fault ["_law_told", "_law_kinds"]
 _law_atom_text : Fx K mg "_law_atom_text" s__law_atom_text ["_law_atom_here"]
 _law_cond_text : Fx K mg "_law_cond_text" s__law_cond_text ["_law_told", "_law_least"]
 _law_columns_here : Fx K mg "_law_columns_here" s__law_columns_here ["_law_cell_here"]
 _law_row : Fx K mg "_law_row" s__law_row ["_law_cell_here", "_law_names"]
 _law_judged : Fx K mg "_law_judged" s__law_judged ["_law_cond_here", "_law_kinds"]
 _law_turned : Fx K mg "_law_turned" s__law_turned ["_law_kinds", "_law_number"]
 _law_names_within : Fx K mg "_law_names_within" s__law_names_within ["_law_told"]
 _law_parts_right : Fx K mg "_law_parts_right" s__law_parts_right ["_law_cond_here", "_law_told"]
 _law_right : Fx K mg "_law_right" s__law_right ["_law_told", "_law_names", "_law_cell_here"]
 law : Fx K mg "law" s_law ["_law_script"]
 y_NoColumn : XIs K C_NoColumn
 k_NoColumn : XMk K C_NoColumn NoColumn___init__.f
 g_NoColumn_name : XGet K C_NoColumn "name"
 s_NoColumn_name : XSet K C_NoColumn "name"
 y_WrongKind : XIs K C_WrongKind
 k_WrongKind : XMk K C_WrongKind WrongKind___init__.f
 g_WrongKind_name : XGet K C_WrongKind "name"
 s_WrongKind_name : XSet K C_WrongKind "name"
 k_Compare : Mk K C_Compare Compare___init__.f
 k_And : Mk K C_And And___init__.f
 k_Or : Mk K C_Or Or___init__.f
 k_Not : Mk K C_Not Not___init__.f
 i_Compare : PySem.W.findIn K (.ref C_Compare) "__class__" = some (some (.builtin "object.__class__"))
 j_Compare : PySem.W.specialIn K (.builtin "object.__class__") "__get__" = some (some (.builtin "getset_descriptor.__get__"))
 h_Compare : PySem.W.takesIn K (.builtin "object.__class__") = some true
 m_Compare : PySem.W.mroIn K C_Compare (.type "object") = some true
 i_And : PySem.W.findIn K (.ref C_And) "__class__" = some (some (.builtin "object.__class__"))
 j_And : PySem.W.specialIn K (.builtin "object.__class__") "__get__" = some (some (.builtin "getset_descriptor.__get__"))
 h_And : PySem.W.takesIn K (.builtin "object.__class__") = some true
 m_And : PySem.W.mroIn K C_And (.type "object") = some true
 i_Or : PySem.W.findIn K (.ref C_Or) "__class__" = some (some (.builtin "object.__class__"))
 j_Or : PySem.W.specialIn K (.builtin "object.__class__") "__get__" = some (some (.builtin "getset_descriptor.__get__"))
 h_Or : PySem.W.takesIn K (.builtin "object.__class__") = some true
 m_Or : PySem.W.mroIn K C_Or (.type "object") = some true
 i_Not : PySem.W.findIn K (.ref C_Not) "__class__" = some (some (.builtin "object.__class__"))
 j_Not : PySem.W.specialIn K (.builtin "object.__class__") "__get__" = some (some (.builtin "getset_descriptor.__get__"))
 h_Not : PySem.W.takesIn K (.builtin "object.__class__") = some true
 m_Not : PySem.W.mroIn K C_Not (.type "object") = some true
 b_bool : mg "bool" = none
 b_dict : mg "dict" = none
 b_int : mg "int" = none
 b_isinstance : mg "isinstance" = none
 b_len : mg "len" = none
 b_max : mg "max" = none
 b_min : mg "min" = none
 b_range : mg "range" = none
 b_set : mg "set" = none
 b_sorted : mg "sorted" = none
 b_str : mg "str" = none
 u_ALONE_TIES : Value
 c_ALONE_TIES : mg "ALONE_TIES" = some u_ALONE_TIES
 r_ALONE_TIES : RelV (.int 3) u_ALONE_TIES
 u_AND_TIES : Value
 c_AND_TIES : mg "AND_TIES" = some u_AND_TIES
 r_AND_TIES : RelV (.int 2) u_AND_TIES
 u_OR_TIES : Value
 c_OR_TIES : mg "OR_TIES" = some u_OR_TIES
 r_OR_TIES : RelV (.int 1) u_OR_TIES
theorem sc_NoColumn___init__ : FnScope ["self", "name"] ["self", "name"] (defScope s_NoColumn___init__) := ⟨rfl, rfl, rfl, by decide +kernel, rfl, by decide +kernel, by decide +kernel⟩
theorem sc_WrongKind___init__ : FnScope ["self", "name"] ["self", "name"] (defScope s_WrongKind___init__) := ⟨rfl, rfl, rfl, by decide +kernel, rfl, by decide +kernel, by decide +kernel⟩
theorem sc_is_whole : FnScope ["thing"] ["thing"] (defScope s_is_whole) := ⟨rfl, rfl, rfl, by decide +kernel, rfl, by decide +kernel, by decide +kernel⟩
theorem sc_value_text : FnScope ["value"] ["value"] (defScope s_value_text) := ⟨rfl, rfl, rfl, by decide +kernel, rfl, by decide +kernel, by decide +kernel⟩
theorem sc_stands : FnScope ["sign", "one", "other"] ["sign", "one", "other"] (defScope s_stands) := ⟨rfl, rfl, rfl, by decide +kernel, rfl, by decide +kernel, by decide +kernel⟩
theorem sc_kind_of_value : FnScope ["value"] ["value"] (defScope s_kind_of_value) := ⟨rfl, rfl, rfl, by decide +kernel, rfl, by decide +kernel, by decide +kernel⟩
theorem sc_atom_text : FnScope ["atom", "text"] ["atom"] (defScope s_atom_text) := ⟨rfl, rfl, rfl, by decide +kernel, rfl, by decide +kernel, by decide +kernel⟩
theorem sc_text_within : FnScope ["cond", "least"] ["cond", "least"] (defScope s_text_within) := ⟨rfl, rfl, rfl, by decide +kernel, rfl, by decide +kernel, by decide +kernel⟩
theorem sc_Compare___init__ : FnScope ["self", "left", "sign", "right"] ["self", "left", "sign", "right"] (defScope s_Compare___init__) := ⟨rfl, rfl, rfl, by decide +kernel, rfl, by decide +kernel, by decide +kernel⟩
theorem sc_Compare_right_value : FnScope ["self", "values"] ["self", "values"] (defScope s_Compare_right_value) := ⟨rfl, rfl, rfl, by decide +kernel, rfl, by decide +kernel, by decide +kernel⟩
theorem sc_Compare_holds : FnScope ["self", "values"] ["self", "values"] (defScope s_Compare_holds) := ⟨rfl, rfl, rfl, by decide +kernel, rfl, by decide +kernel, by decide +kernel⟩
theorem sc_Compare_names_as_told : FnScope ["self"] ["self"] (defScope s_Compare_names_as_told) := ⟨rfl, rfl, rfl, by decide +kernel, rfl, by decide +kernel, by decide +kernel⟩
theorem sc_Compare_right_kind : FnScope ["self", "kinds"] ["self", "kinds"] (defScope s_Compare_right_kind) := ⟨rfl, rfl, rfl, by decide +kernel, rfl, by decide +kernel, by decide +kernel⟩
theorem sc_Compare_judged : FnScope ["self", "kinds", "name"] ["self", "kinds"] (defScope s_Compare_judged) := ⟨rfl, rfl, rfl, by decide +kernel, rfl, by decide +kernel, by decide +kernel⟩
theorem sc_Compare_cleared : FnScope ["self"] ["self"] (defScope s_Compare_cleared) := ⟨rfl, rfl, rfl, by decide +kernel, rfl, by decide +kernel, by decide +kernel⟩
theorem sc_Compare_opposite : FnScope ["self"] ["self"] (defScope s_Compare_opposite) := ⟨rfl, rfl, rfl, by decide +kernel, rfl, by decide +kernel, by decide +kernel⟩
theorem sc_Compare_told : FnScope ["self"] ["self"] (defScope s_Compare_told) := ⟨rfl, rfl, rfl, by decide +kernel, rfl, by decide +kernel, by decide +kernel⟩
theorem sc_Compare_text : FnScope ["self"] ["self"] (defScope s_Compare_text) := ⟨rfl, rfl, rfl, by decide +kernel, rfl, by decide +kernel, by decide +kernel⟩
theorem sc_Compare_names_in : FnScope ["self"] ["self"] (defScope s_Compare_names_in) := ⟨rfl, rfl, rfl, by decide +kernel, rfl, by decide +kernel, by decide +kernel⟩
theorem sc_Compare_ties : FnScope ["self"] ["self"] (defScope s_Compare_ties) := ⟨rfl, rfl, rfl, by decide +kernel, rfl, by decide +kernel, by decide +kernel⟩
theorem sc_And___init__ : FnScope ["self", "first", "second"] ["self", "first", "second"] (defScope s_And___init__) := ⟨rfl, rfl, rfl, by decide +kernel, rfl, by decide +kernel, by decide +kernel⟩
theorem sc_And_holds : FnScope ["self", "values"] ["self", "values"] (defScope s_And_holds) := ⟨rfl, rfl, rfl, by decide +kernel, rfl, by decide +kernel, by decide +kernel⟩
theorem sc_And_parts : FnScope ["self"] ["self"] (defScope s_And_parts) := ⟨rfl, rfl, rfl, by decide +kernel, rfl, by decide +kernel, by decide +kernel⟩
theorem sc_And_cleared : FnScope ["self"] ["self"] (defScope s_And_cleared) := ⟨rfl, rfl, rfl, by decide +kernel, rfl, by decide +kernel, by decide +kernel⟩
theorem sc_And_opposite : FnScope ["self"] ["self"] (defScope s_And_opposite) := ⟨rfl, rfl, rfl, by decide +kernel, rfl, by decide +kernel, by decide +kernel⟩
theorem sc_And_told : FnScope ["self"] ["self"] (defScope s_And_told) := ⟨rfl, rfl, rfl, by decide +kernel, rfl, by decide +kernel, by decide +kernel⟩
theorem sc_And_text : FnScope ["self"] ["self"] (defScope s_And_text) := ⟨rfl, rfl, rfl, by decide +kernel, rfl, by decide +kernel, by decide +kernel⟩
theorem sc_And_ties : FnScope ["self"] ["self"] (defScope s_And_ties) := ⟨rfl, rfl, rfl, by decide +kernel, rfl, by decide +kernel, by decide +kernel⟩
theorem sc_And_names_as_told : FnScope ["self", "names", "cond"] ["self"] (defScope s_And_names_as_told) := ⟨rfl, rfl, rfl, by decide +kernel, rfl, by decide +kernel, by decide +kernel⟩
theorem sc_And_names_in : FnScope ["self"] ["self"] (defScope s_And_names_in) := ⟨rfl, rfl, rfl, by decide +kernel, rfl, by decide +kernel, by decide +kernel⟩
theorem sc_And_judged : FnScope ["self", "kinds", "cond"] ["self", "kinds"] (defScope s_And_judged) := ⟨rfl, rfl, rfl, by decide +kernel, rfl, by decide +kernel, by decide +kernel⟩
theorem sc_Or___init__ : FnScope ["self", "first", "second"] ["self", "first", "second"] (defScope s_Or___init__) := ⟨rfl, rfl, rfl, by decide +kernel, rfl, by decide +kernel, by decide +kernel⟩
theorem sc_Or_holds : FnScope ["self", "values"] ["self", "values"] (defScope s_Or_holds) := ⟨rfl, rfl, rfl, by decide +kernel, rfl, by decide +kernel, by decide +kernel⟩
theorem sc_Or_parts : FnScope ["self"] ["self"] (defScope s_Or_parts) := ⟨rfl, rfl, rfl, by decide +kernel, rfl, by decide +kernel, by decide +kernel⟩
theorem sc_Or_cleared : FnScope ["self"] ["self"] (defScope s_Or_cleared) := ⟨rfl, rfl, rfl, by decide +kernel, rfl, by decide +kernel, by decide +kernel⟩
theorem sc_Or_opposite : FnScope ["self"] ["self"] (defScope s_Or_opposite) := ⟨rfl, rfl, rfl, by decide +kernel, rfl, by decide +kernel, by decide +kernel⟩
theorem sc_Or_told : FnScope ["self"] ["self"] (defScope s_Or_told) := ⟨rfl, rfl, rfl, by decide +kernel, rfl, by decide +kernel, by decide +kernel⟩
theorem sc_Or_text : FnScope ["self"] ["self"] (defScope s_Or_text) := ⟨rfl, rfl, rfl, by decide +kernel, rfl, by decide +kernel, by decide +kernel⟩
theorem sc_Or_ties : FnScope ["self"] ["self"] (defScope s_Or_ties) := ⟨rfl, rfl, rfl, by decide +kernel, rfl, by decide +kernel, by decide +kernel⟩
theorem sc_Or_names_as_told : FnScope ["self", "names", "cond"] ["self"] (defScope s_Or_names_as_told) := ⟨rfl, rfl, rfl, by decide +kernel, rfl, by decide +kernel, by decide +kernel⟩
theorem sc_Or_names_in : FnScope ["self"] ["self"] (defScope s_Or_names_in) := ⟨rfl, rfl, rfl, by decide +kernel, rfl, by decide +kernel, by decide +kernel⟩
theorem sc_Or_judged : FnScope ["self", "kinds", "cond"] ["self", "kinds"] (defScope s_Or_judged) := ⟨rfl, rfl, rfl, by decide +kernel, rfl, by decide +kernel, by decide +kernel⟩
theorem sc_Not___init__ : FnScope ["self", "inside"] ["self", "inside"] (defScope s_Not___init__) := ⟨rfl, rfl, rfl, by decide +kernel, rfl, by decide +kernel, by decide +kernel⟩
theorem sc_Not_holds : FnScope ["self", "values"] ["self", "values"] (defScope s_Not_holds) := ⟨rfl, rfl, rfl, by decide +kernel, rfl, by decide +kernel, by decide +kernel⟩
theorem sc_Not_parts : FnScope ["self"] ["self"] (defScope s_Not_parts) := ⟨rfl, rfl, rfl, by decide +kernel, rfl, by decide +kernel, by decide +kernel⟩
theorem sc_Not_cleared : FnScope ["self"] ["self"] (defScope s_Not_cleared) := ⟨rfl, rfl, rfl, by decide +kernel, rfl, by decide +kernel, by decide +kernel⟩
theorem sc_Not_opposite : FnScope ["self"] ["self"] (defScope s_Not_opposite) := ⟨rfl, rfl, rfl, by decide +kernel, rfl, by decide +kernel, by decide +kernel⟩
theorem sc_Not_told : FnScope ["self"] ["self"] (defScope s_Not_told) := ⟨rfl, rfl, rfl, by decide +kernel, rfl, by decide +kernel, by decide +kernel⟩
theorem sc_Not_text : FnScope ["self"] ["self"] (defScope s_Not_text) := ⟨rfl, rfl, rfl, by decide +kernel, rfl, by decide +kernel, by decide +kernel⟩
theorem sc_Not_names_as_told : FnScope ["self", "names", "cond"] ["self"] (defScope s_Not_names_as_told) := ⟨rfl, rfl, rfl, by decide +kernel, rfl, by decide +kernel, by decide +kernel⟩
theorem sc_Not_names_in : FnScope ["self"] ["self"] (defScope s_Not_names_in) := ⟨rfl, rfl, rfl, by decide +kernel, rfl, by decide +kernel, by decide +kernel⟩
theorem sc_Not_judged : FnScope ["self", "kinds", "cond"] ["self", "kinds"] (defScope s_Not_judged) := ⟨rfl, rfl, rfl, by decide +kernel, rfl, by decide +kernel, by decide +kernel⟩
theorem sc_Not_ties : FnScope ["self"] ["self"] (defScope s_Not_ties) := ⟨rfl, rfl, rfl, by decide +kernel, rfl, by decide +kernel, by decide +kernel⟩
theorem sc__law_cell : FnScope ["_law_script", "_law_k"] ["_law_script", "_law_k"] (defScope s__law_cell) := ⟨rfl, rfl, rfl, by decide +kernel, rfl, by decide +kernel, by decide +kernel⟩
theorem sc__law_mix : FnScope ["_law_cell_here", "_law_k", "_law_number"] ["_law_cell_here", "_law_k"] (defScope s__law_mix) := ⟨rfl, rfl, rfl, by decide +kernel, rfl, by decide +kernel, by decide +kernel⟩
theorem sc__law_numbers : FnScope ["_law_cell_here", "_law_many"] ["_law_cell_here", "_law_many"] (defScope s__law_numbers) := ⟨rfl, rfl, rfl, by decide +kernel, rfl, by decide +kernel, by decide +kernel⟩
theorem sc__law_next : FnScope ["_law_numbers_here"] ["_law_numbers_here"] (defScope s__law_next) := ⟨rfl, rfl, rfl, by decide +kernel, rfl, by decide +kernel, by decide +kernel⟩
theorem sc__law_words : FnScope ["_law_cell_here", "_law_many", "_law_letters", "_law_long", "_law_at", "_law_words_here", "_law_k", "_law_word", "_law_j"] ["_law_cell_here", "_law_many"] (defScope s__law_words) := ⟨rfl, rfl, rfl, by decide +kernel, rfl, by decide +kernel, by decide +kernel⟩
theorem sc__law_atom : FnScope ["_law_numbers_here", "_law_names", "_law_kind", "_law_number", "_law_some"] ["_law_numbers_here", "_law_names", "_law_kind"] (defScope s__law_atom) := ⟨rfl, rfl, rfl, by decide +kernel, rfl, by decide +kernel, by decide +kernel⟩
theorem sc__law_compare : FnScope ["_law_numbers_here", "_law_names", "_law_number", "_law_name", "_law_kind", "_law_sign"] ["_law_numbers_here", "_law_names"] (defScope s__law_compare) := ⟨rfl, rfl, rfl, by decide +kernel, rfl, by decide +kernel, by decide +kernel⟩
theorem sc__law_cond : FnScope ["_law_numbers_here", "_law_names", "_law_deep", "_law_way", "_law_first"] ["_law_numbers_here", "_law_names", "_law_deep"] (defScope s__law_cond) := ⟨rfl, rfl, rfl, by decide +kernel, rfl, by decide +kernel, by decide +kernel⟩
theorem sc__law_cond_built : FnScope ["_law_told", "_law_first", "_law_second"] ["_law_told"] (defScope s__law_cond_built) := ⟨rfl, rfl, rfl, by decide +kernel, rfl, by decide +kernel, by decide +kernel⟩
theorem sc__law_held : FnScope ["_law_told", "_law_values", "_law_one", "_law_other", "_law_truths"] ["_law_told", "_law_values"] (defScope s__law_held) := ⟨rfl, rfl, rfl, by decide +kernel, rfl, by decide +kernel, by decide +kernel⟩
theorem sc__law_plain : FnScope ["_law_told", "_law_turned_here", "_law_word", "_law_signs"] ["_law_told", "_law_turned_here"] (defScope s__law_plain) := ⟨rfl, rfl, rfl, by decide +kernel, rfl, by decide +kernel, by decide +kernel⟩
theorem sc__law_compares : FnScope ["_law_told"] ["_law_told"] (defScope s__law_compares) := ⟨rfl, rfl, rfl, by decide +kernel, rfl, by decide +kernel, by decide +kernel⟩
theorem sc__law_fault : FnScope ["_law_told", "_law_kinds", "_law_one", "_law_kind"] ["_law_told", "_law_kinds"] (defScope s__law_fault) := ⟨rfl, rfl, rfl, by decide +kernel, rfl, by decide +kernel, by decide +kernel⟩
theorem sc__law_atom_text : FnScope ["_law_atom_here"] ["_law_atom_here"] (defScope s__law_atom_text) := ⟨rfl, rfl, rfl, by decide +kernel, rfl, by decide +kernel, by decide +kernel⟩
theorem sc__law_cond_text : FnScope ["_law_told", "_law_least", "_law_level", "_law_text"] ["_law_told", "_law_least"] (defScope s__law_cond_text) := ⟨rfl, rfl, rfl, by decide +kernel, rfl, by decide +kernel, by decide +kernel⟩
theorem sc__law_columns_here : FnScope ["_law_cell_here", "_law_words_here", "_law_names", "_law_k", "_law_name"] ["_law_cell_here"] (defScope s__law_columns_here) := ⟨rfl, rfl, rfl, by decide +kernel, rfl, by decide +kernel, by decide +kernel⟩
theorem sc__law_row : FnScope ["_law_cell_here", "_law_names", "_law_values", "_law_k", "_law_number"] ["_law_cell_here", "_law_names"] (defScope s__law_row) := ⟨rfl, rfl, rfl, by decide +kernel, rfl, by decide +kernel, by decide +kernel⟩
theorem sc__law_judged : FnScope ["_law_cond_here", "_law_kinds", "_law_found", "e"] ["_law_cond_here", "_law_kinds"] (defScope s__law_judged) := ⟨rfl, rfl, rfl, by decide +kernel, rfl, by decide +kernel, by decide +kernel⟩
theorem sc__law_turned : FnScope ["_law_kinds", "_law_number", "_law_some", "_law_name"] ["_law_kinds", "_law_number"] (defScope s__law_turned) := ⟨rfl, rfl, rfl, by decide +kernel, rfl, by decide +kernel, by decide +kernel⟩
theorem sc__law_names_within : FnScope ["_law_told", "_law_names", "_law_one"] ["_law_told"] (defScope s__law_names_within) := ⟨rfl, rfl, rfl, by decide +kernel, rfl, by decide +kernel, by decide +kernel⟩
theorem sc__law_parts_right : FnScope ["_law_cond_here", "_law_told"] ["_law_cond_here", "_law_told"] (defScope s__law_parts_right) := ⟨rfl, rfl, rfl, by decide +kernel, rfl, by decide +kernel, by decide +kernel⟩
theorem sc__law_right : FnScope ["_law_told", "_law_names", "_law_cell_here", "_law_cond_here", "_law_kinds", "_law_cleared", "_law_opposite", "_law_k", "_law_values", "_law_held_here", "_law_told_so", "_law_some"] ["_law_told", "_law_names", "_law_cell_here"] (defScope s__law_right) := ⟨rfl, rfl, rfl, by decide +kernel, rfl, by decide +kernel, by decide +kernel⟩
theorem sc_law : FnScope ["_law_script", "_law_names", "_law_k", "_law_cell_here"] ["_law_script"] (defScope s_law) := ⟨rfl, rfl, rfl, by decide +kernel, rfl, by decide +kernel, by decide +kernel⟩
inductive At where
 | col (n : Str) | num (i : Int) | wrd (x : Str)
 deriving DecidableEq
inductive Cn where
 | cmp (l s : Str) (r : At) | an (a b : Cn) | or (a b : Cn) | nt (a : Cn)
inductive KC where
 | cm | an | or | nt
def Cn.k : Cn → KC
 | .cmp .. => .cm | .an .. => .an | .or .. => .or | .nt .. => .nt
def Cn.dp : Cn → Nat
 | .cmp .. => 1 | .an a b => max a.dp b.dp + 1 | .or a b => max a.dp b.dp + 1 | .nt a => a.dp + 1
def At.v : At → V
 | .col n => .str n | .num i => .int i | .wrd x => .str x
def At.w : At → Str
 | .col _ => "column" | _ => "value"
def At.d (r : At) : Dp := .tp [.fl (.str r.w), .fl r.v]
def Cn.d : Cn → Dp
 | .cmp l s r => .tp [.fl (.str "compare"), .fl (.str l), .fl (.str s), r.d]
 | .an a b => .tp [.fl (.str "and"), a.d, b.d]
 | .or a b => .tp [.fl (.str "or"), a.d, b.d]
 | .nt a => .tp [.fl (.str "not"), a.d]
def AtT (H : Hp) (r : At) (b : Addr) : Prop := H b = some (.tup [.str r.w, r.v])
def Tld (H : Hp) : Cn → V → Prop
 | .cmp l s r, v => ∃ a b, v = .ref a ∧ H a = some (.tup [.str "compare", .str l, .str s, .ref b]) ∧ AtT H r b
 | .an x y, v => ∃ a vx vy, v = .ref a ∧ H a = some (.tup [.str "and", vx, vy]) ∧ Tld H x vx ∧ Tld H y vy
 | .or x y, v => ∃ a vx vy, v = .ref a ∧ H a = some (.tup [.str "or", vx, vy]) ∧ Tld H x vx ∧ Tld H y vy
 | .nt x, v => ∃ a vx, v = .ref a ∧ H a = some (.tup [.str "not", vx]) ∧ Tld H x vx
def cmF (l s : Str) (b : Addr) : List (Str × V) := [("left", .str l), ("sign", .str s), ("right", .ref b)]
def twoF (x y : V) : List (Str × V) := [("first", x), ("second", y)]
def oneF (x : V) : List (Str × V) := [("inside", x)]
def CO (C : KC → Addr) (H : Hp) : Cn → V → Prop
 | .cmp l s r, v => ∃ a dx b, v = .ref a ∧ H a = some (.ins (C .cm) dx (cmF l s b)) ∧ AtT H r b
 | .an x y, v => ∃ a dx vx vy, v = .ref a ∧ H a = some (.ins (C .an) dx (twoF vx vy)) ∧ CO C H x vx ∧ CO C H y vy
 | .or x y, v => ∃ a dx vx vy, v = .ref a ∧ H a = some (.ins (C .or) dx (twoF vx vy)) ∧ CO C H x vx ∧ CO C H y vy
 | .nt x, v => ∃ a dx vx, v = .ref a ∧ H a = some (.ins (C .nt) dx (oneF vx)) ∧ CO C H x vx
theorem AtT.same {H H' : Hp} {r : At} {b : Addr} (h : AtT H r b) (s : Same H H') : AtT H' r b := s _ _ h
theorem Tld.same {H H' : Hp} (s : Same H H') : ∀ {c : Cn} {v : V}, Tld H c v → Tld H' c v
 | .cmp _ _ _, _, ⟨a, b, e, h, t⟩ => ⟨a, b, e, s _ _ h, t.same s⟩
 | .an _ _, _, ⟨a, x, y, e, h, t, u⟩ => ⟨a, x, y, e, s _ _ h, Tld.same s t, Tld.same s u⟩
 | .or _ _, _, ⟨a, x, y, e, h, t, u⟩ => ⟨a, x, y, e, s _ _ h, Tld.same s t, Tld.same s u⟩
 | .nt _, _, ⟨a, x, e, h, t⟩ => ⟨a, x, e, s _ _ h, Tld.same s t⟩
theorem CO.same {C : KC → Addr} {H H' : Hp} (s : Same H H') : ∀ {c : Cn} {v : V}, CO C H c v → CO C H' c v
 | .cmp _ _ _, _, ⟨a, dx, b, e, h, t⟩ => ⟨a, dx, b, e, s _ _ h, t.same s⟩
 | .an _ _, _, ⟨a, dx, x, y, e, h, t, u⟩ => ⟨a, dx, x, y, e, s _ _ h, CO.same s t, CO.same s u⟩
 | .or _ _, _, ⟨a, dx, x, y, e, h, t, u⟩ => ⟨a, dx, x, y, e, s _ _ h, CO.same s t, CO.same s u⟩
 | .nt _, _, ⟨a, dx, x, e, h, t⟩ => ⟨a, dx, x, e, s _ _ h, CO.same s t⟩
def noField (m : Str) : Prop := m ≠ "left" ∧ m ≠ "sign" ∧ m ≠ "right" ∧ m ≠ "first" ∧ m ≠ "second" ∧ m ≠ "inside"
theorem look_no {m f : Str} {v : V} {r : List (Str × V)} (h : m ≠ f) : ((f, v) :: r).lookup m = r.lookup m := by
 rw [List.lookup_cons, beq_eq_false_iff_ne.mpr h]
theorem CO.at {C : KC → Addr} {H : Hp} {c : Cn} {v : V} (h : CO C H c v) (m : Str) (n : noField m) : ∃ a dx fs, v = .ref a ∧ H a = some (.ins (C c.k) dx fs) ∧ fs.lookup m = none := by
 cases c with
 | cmp l s r =>
  obtain ⟨a, dx, b, e, h, _⟩ := h
  refine ⟨a, dx, _, e, h, ?_⟩
  rw [cmF, look_no n.1, look_no n.2.1, look_no n.2.2.1]
  rfl
 | an x y =>
  obtain ⟨a, dx, vx, vy, e, h, _⟩ := h
  refine ⟨a, dx, _, e, h, ?_⟩
  rw [twoF, look_no n.2.2.2.1, look_no n.2.2.2.2.1]
  rfl
 | or x y =>
  obtain ⟨a, dx, vx, vy, e, h, _⟩ := h
  refine ⟨a, dx, _, e, h, ?_⟩
  rw [twoF, look_no n.2.2.2.1, look_no n.2.2.2.2.1]
  rfl
 | nt x =>
  obtain ⟨a, dx, vx, e, h, _⟩ := h
  refine ⟨a, dx, _, e, h, ?_⟩
  rw [oneF, look_no n.2.2.2.2.2]
  rfl
theorem nf_told : noField "told" := by unfold noField; decide +kernel
theorem nf_text : noField "text" := by unfold noField; decide +kernel
theorem nf_ties : noField "ties" := by unfold noField; decide +kernel
theorem nf_holds : noField "holds" := by unfold noField; decide +kernel
theorem nf_names : noField "names_as_told" := by unfold noField; decide +kernel
theorem nf_namesin : noField "names_in" := by unfold noField; decide +kernel
theorem nf_parts : noField "parts" := by unfold noField; decide +kernel
theorem nf_judged : noField "judged" := by unfold noField; decide +kernel
theorem nf_cleared : noField "cleared" := by unfold noField; decide +kernel
theorem nf_opposite : noField "opposite" := by unfold noField; decide +kernel
theorem nf_rv : noField "right_value" := by unfold noField; decide +kernel
theorem nf_rk : noField "right_kind" := by unfold noField; decide +kernel
theorem cm_l (l s : Str) (b : Addr) : (cmF l s b).lookup ("left" : Str) = some (.str l) := by kernel_rfl
theorem cm_s (l s : Str) (b : Addr) : (cmF l s b).lookup ("sign" : Str) = some (.str s) := by kernel_rfl
theorem cm_r (l s : Str) (b : Addr) : (cmF l s b).lookup ("right" : Str) = some (.ref b) := by kernel_rfl
theorem tw_f (x y : V) : (twoF x y).lookup ("first" : Str) = some x := by kernel_rfl
theorem tw_s (x y : V) : (twoF x y).lookup ("second" : Str) = some y := by kernel_rfl
theorem on_i (x : V) : (oneF x).lookup ("inside" : Str) = some x := by kernel_rfl
theorem tl_str {K : PySem.W.Frag} {H : Hp} (n : Nat) (x : Str) : Tl K H (n + 1) (.fl (.str x)) (.str x) := ⟨rfl, rfl, by show (x == x) = true; exact beq_self_eq_true x⟩
theorem tl_at {K : PySem.W.Frag} {H : Hp} {r : At} {b : Addr} (n : Nat) (h : AtT H r b) : Tl K H (n + 2) r.d (.ref b) := by
 refine ⟨b, _, rfl, SqT.of h, .cons (tl_str n _) (.cons ?_ .nil)⟩
 cases r with
 | col x => exact tl_str n x
 | num i => exact ⟨rfl, rfl, by show (i == i) = true; exact beq_self_eq_true i⟩
 | wrd x => exact tl_str n x
theorem Tld.tl {K : PySem.W.Frag} {H : Hp} : ∀ {c : Cn} {v : V} (n : Nat), c.dp ≤ n → Tld H c v → Tl K H (n + 2) c.d v
 | .cmp l s r, v, n, hn, ⟨a, b, e, h, t⟩ => by
  obtain ⟨m, rfl⟩ : ∃ m, n = m + 1 := ⟨n - 1, by simp only [Cn.dp] at hn; omega⟩
  exact ⟨a, _, e, SqT.of h, .cons (tl_str _ _) (.cons (tl_str _ _) (.cons (tl_str _ _) (.cons (tl_at m t) .nil)))⟩
 | .an x y, v, n, hn, ⟨a, vx, vy, e, h, t, u⟩ => by
  obtain ⟨m, rfl⟩ : ∃ m, n = m + 1 := ⟨n - 1, by simp only [Cn.dp] at hn; omega⟩
  simp only [Cn.dp] at hn
  exact ⟨a, _, e, SqT.of h, .cons (tl_str _ _) (.cons (Tld.tl m (by omega) t) (.cons (Tld.tl m (by omega) u) .nil))⟩
 | .or x y, v, n, hn, ⟨a, vx, vy, e, h, t, u⟩ => by
  obtain ⟨m, rfl⟩ : ∃ m, n = m + 1 := ⟨n - 1, by simp only [Cn.dp] at hn; omega⟩
  simp only [Cn.dp] at hn
  exact ⟨a, _, e, SqT.of h, .cons (tl_str _ _) (.cons (Tld.tl m (by omega) t) (.cons (Tld.tl m (by omega) u) .nil))⟩
 | .nt x, v, n, hn, ⟨a, vx, e, h, t⟩ => by
  obtain ⟨m, rfl⟩ : ∃ m, n = m + 1 := ⟨n - 1, by simp only [Cn.dp] at hn; omega⟩
  simp only [Cn.dp] at hn
  exact ⟨a, _, e, SqT.of h, .cons (tl_str _ _) (.cons (Tld.tl m (by omega) t) .nil)⟩
def At.txt : At → Str
 | .col n => n
 | .num i => (toString i : String)
 | .wrd x => "'" ++ x ++ "'"
def tyT : Cn → Int
 | .cmp .. => 3 | .an .. => 2 | .or .. => 1 | .nt .. => 3
def inBr (x : Str) : Str := "( " ++ x ++ " )"
def Cn.txt : Cn → Str
 | .cmp l s r => Txt.join " " [l, s, r.txt]
 | .an a b => (if tyT a ≥ 2 then a.txt else inBr a.txt) ++ " and " ++ (if tyT b ≥ 3 then b.txt else inBr b.txt)
 | .or a b => (if tyT a ≥ 1 then a.txt else inBr a.txt) ++ " or " ++ (if tyT b ≥ 2 then b.txt else inBr b.txt)
 | .nt a => "not " ++ (if tyT a ≥ 3 then a.txt else inBr a.txt)
def within (c : Cn) (n : Int) : Str := if tyT c ≥ n then c.txt else inBr c.txt
def oppS (s : Str) : Str := (kv_OPPOSITE.lookup s).getD ""
mutual
def Cn.clr : Cn → Cn
 | .cmp l s r => .cmp l s r
 | .an a b => .an a.clr b.clr
 | .or a b => .or a.clr b.clr
 | .nt a => a.opp
def Cn.opp : Cn → Cn
 | .cmp l s r => .cmp l (oppS s) r
 | .an a b => .or a.opp b.opp
 | .or a b => .an a.opp b.opp
 | .nt a => a.clr
end
def At.names : At → List Str
 | .col n => [n] | _ => []
def Cn.names : Cn → List Str
 | .cmp l _ r => l :: r.names
 | .an a b => a.names ++ b.names
 | .or a b => a.names ++ b.names
 | .nt a => a.names
def Cn.comps : Cn → List Cn
 | .cmp l s r => [.cmp l s r]
 | .an a b => a.comps ++ b.comps
 | .or a b => a.comps ++ b.comps
 | .nt a => a.comps
def ltV : V → V → Bool
 | .int i, .int j => decide (i < j)
 | .str x, .str y => decide (x.cps.toList < y.cps.toList)
 | _, _ => false
def leV : V → V → Bool
 | .int i, .int j => decide (i ≤ j)
 | .str x, .str y => !decide (y.cps.toList < x.cps.toList)
 | _, _ => false
def stV (s : Str) (x y : V) : Bool :=
 if s = "=" then decide (x = y) else if s = "<>" then !decide (x = y) else if s = "<" then ltV x y else if s = "<=" then leV x y else if s = ">" then ltV y x else leV y x
def alike : V → V → Bool
 | .int _, .int _ => true
 | .str _, .str _ => true
 | _, _ => false
abbrev Row := List (Key × V)
def look (ρ : Row) (n : Str) : Option V := valV ρ (.inr n : Key)
def At.val (ρ : Row) : At → Option V
 | .col n => look ρ n
 | r => some r.v
def fitsC (ρ : Row) : Cn → Prop
 | .cmp l _ r => ∃ x y, look ρ l = some x ∧ r.val ρ = some y ∧ alike x y = true
 | .an a b => fitsC ρ a ∧ fitsC ρ b
 | .or a b => fitsC ρ a ∧ fitsC ρ b
 | .nt a => fitsC ρ a
def Cn.hold (ρ : Row) : Cn → Bool
 | .cmp l s r => stV s ((look ρ l).getD .non) ((r.val ρ).getD .non)
 | .an a b => a.hold ρ && b.hold ρ
 | .or a b => a.hold ρ || b.hold ρ
 | .nt a => !a.hold ρ
def At.kd (κ : Row) : At → Option V
 | .col n => look κ n
 | .num _ => some (.str "number")
 | .wrd _ => some (.str "word")
def Cn.fault (κ : Row) : Cn → Option (Bool × Str)
 | .cmp l _ r =>
  match look κ l, r.kd κ with
  | none, _ => some (true, l)
  | some _, none => some (true, match r with | .col n => n | _ => l)
  | some a, some b => if a = b then none else some (false, l)
 | .an a b => match a.fault κ with | some x => some x | none => b.fault κ
 | .or a b => match a.fault κ with | some x => some x | none => b.fault κ
 | .nt a => a.fault κ
def okS (s : Str) : Prop := s ∈ (["=", "<>", "<", "<=", ">", ">="] : List Str)
def At.ok : At → Prop
 | .col n => n.length ≤ 20
 | .num i => i.natAbs ≤ 1000000000
 | .wrd x => x.length ≤ 8
def Cn.ok : Cn → Prop
 | .cmp l s r => l.length ≤ 20 ∧ okS s ∧ r.ok
 | .an a b => a.ok ∧ b.ok
 | .or a b => a.ok ∧ b.ok
 | .nt a => a.ok
theorem Cn.dp_pos : ∀ c : Cn, 1 ≤ c.dp
 | .cmp .. => Nat.le_refl _
 | .an .. => Nat.succ_le_succ (Nat.zero_le _)
 | .or .. => Nat.succ_le_succ (Nat.zero_le _)
 | .nt .. => Nat.succ_le_succ (Nat.zero_le _)
def clsOf {w : World} {K : PySem.W.Frag} {mg : Str → Option Value} (T : Txt w K mg) : KC → Addr
 | .cm => T.C_Compare | .an => T.C_And | .or => T.C_Or | .nt => T.C_Not
theorem cls_all {w : World} {K : PySem.W.Frag} {mg : Str → Option Value} (T : Txt w K mg) : ∀ i, Cls K (clsOf T i)
 | .cm => T.l_Compare | .an => T.l_And | .or => T.l_Or | .nt => T.l_Not
def okV : V → Prop
 | .int i => i.natAbs ≤ 1000000000
 | .str _ => True
 | _ => False
def isI : V → Bool
 | .int _ => true | _ => false
def sp_is_whole : Sp := fun vs H Q _ => ∃ v, vs = [v] ∧ okV v ∧ Q (.bl (isI v)) H
def sp_value_text : Sp := fun vs H Q _ => ∃ v, vs = [v] ∧ okV v ∧ Q (.str (strV v)) H
def sp_stands : Sp := fun vs H Q _ => ∃ s x y, vs = [.str s, x, y] ∧ alike x y = true ∧ Q (.bl (stV s x y)) H
def sp_kind_of_value : Sp := fun vs H Q _ => ∃ v, vs = [v] ∧ okV v ∧ Q (.str (if isI v then "number" else "word")) H
def sp_atom_text : Sp := fun vs H Q _ => ∃ b r, vs = [.ref b] ∧ AtT H r b ∧ r.ok ∧ Q (.str r.txt) H
def sp_init (C : Addr) (fs : List Str) : Sp := fun vs H Q _ => ∃ (p dx : Addr) (ys : List V), vs = .ref p :: ys ∧ ys.length = fs.length ∧ H p = some (.ins C dx []) ∧ Q .non (upd H p (.ins C dx (fs.zip ys)))
theorem init_len {C : Addr} {fs ps : List Str} (e : fs.length + 1 = ps.length) (vs : List V) (H : Hp) (Q : VK) (E : XK) (h : sp_init C fs vs H Q E) : vs.length = ps.length := by
 obtain ⟨p, dx, ys, rfl, l, _⟩ := h
 rw [← e, ← l]
 rfl
def sp_xi (C : Addr) (fs : List Str) : Sp := fun vs H Q _ => ∃ (p : Addr) (ys : List V), vs = .ref p :: ys ∧ ys.length = fs.length ∧ H p = some (excX p C none true) ∧ ∀ d, H d = none → d ≠ p → Q .non (upd (upd H p (excX p C (some d) true)) d (xdO d (fs.zip ys)))
theorem xi_len {C : Addr} {fs ps : List Str} (e : fs.length + 1 = ps.length) (vs : List V) (H : Hp) (Q : VK) (E : XK) (h : sp_xi C fs vs H Q E) : vs.length = ps.length := by
 obtain ⟨p, ys, rfl, l, _⟩ := h
 rw [← e, ← l]
 rfl
theorem made_step {H : Hp} {x d C : Addr} {fs : List (Str × V)} (hx : H x = none) (hd : upd H x (excX x C none true) d = none) (ne : d ≠ x) :
  Same H (upd (upd (upd H x (excX x C none true)) x (excX x C (some d) true)) d (xdO d fs)) ∧ upd (upd (upd H x (excX x C none true)) x (excX x C (some d) true)) d (xdO d fs) x = some (excX x C (some d) true) ∧ upd (upd (upd H x (excX x C none true)) x (excX x C (some d) true)) d (xdO d fs) d = some (xdO d fs) := by
 rw [upd_ne ne] at hd
 refine ⟨?_, by rw [upd_ne ne.symm]; exact upd_same, upd_same⟩
 rw [upd_upd]
 exact (Same.new hx).trans (Same.new (by rw [upd_ne ne]; exact hd))
theorem raise_step {H : Hp} {x d C : Addr} {fs : List (Str × V)} (hx : H x = none) (hd : upd H x (excX x C none true) d = none) (ne : d ≠ x) :
  Same H (del (upd (upd (upd H x (excX x C none true)) x (excX x C (some d) true)) d (xdO d fs)) x) ∧ del (upd (upd (upd H x (excX x C none true)) x (excX x C (some d) true)) d (xdO d fs)) x d = some (xdO d fs) := by
 obtain ⟨s, _, e⟩ := made_step (fs := fs) hx hd ne
 refine ⟨fun b o z => ?_, ?_⟩
 ·have nb : b ≠ x := fun z' => by rw [z', hx] at z; cases z
  rw [del_ne nb]
  exact s b o z
 ·rw [del_ne ne]
  exact e
def Comes (C : Addr) (H : Hp) (E : XK) (fs : List (Str × V)) : Prop := ∀ (d : Addr) (H' : Hp), Same H H' → H' d = some (xdO d fs) → E (.ref C) (some d) H'
theorem Comes.same {C : Addr} {H H' : Hp} {E : XK} {fs : List (Str × V)} (h : Comes C H E fs) (s : Same H H') : Comes C H' E fs := fun d H2 s2 e => h d H2 (s.trans s2) e
theorem new_step {H : Hp} {x dx C : Addr} {fs : List (Str × V)} (hx : H x = none) (hd : H dx = none) (ne : dx ≠ x) : Same H (upd (upd (upd H dx (.own x)) x (.ins C dx [])) x (.ins C dx fs)) ∧ upd (upd (upd H dx (.own x)) x (.ins C dx [])) x (.ins C dx fs) x = some (.ins C dx fs) := by
 rw [upd_upd]
 exact ⟨(Same.new hd).trans (Same.new (by rw [upd_ne ne.symm]; exact hx)), upd_same⟩
theorem log_ok {i : Int} (h : i.natAbs ≤ 1000000000) : i.natAbs.log2 < 1920 := by
 rcases Nat.eq_zero_or_pos i.natAbs with z | z
 ·rw [z]
  decide
 ·exact (Nat.log2_lt (by omega)).mpr (Nat.lt_of_le_of_lt h (Nat.lt_of_lt_of_le (by decide : 1000000000 < 2 ^ 30) (Nat.pow_le_pow_right (by decide) (by decide))))
section
variable {P : Program} {w : World} {K : PySem.W.Frag} {mg : Str → Option Value} {base : Heap}
theorem ok_is_whole (T : Txt w K mg) : FnOk P w K mg base CX0 1 T.is_whole.f T.is_whole.fd ["thing"] sp_is_whole := by
 refine T.is_whole.fn.ok sc_is_whole (fun vs H Q E h => ?_) (fun cdv A outer s H vs Q E hr h => ?_)
 ·obtain ⟨v, rfl, _⟩ := h
  rfl
 ·obtain ⟨v, rfl, ok, k⟩ := h
  refine ⟨_, ((pss_one (ps_ret (pe_and (pe_callB (call_isiTK (K := K) rfl) (by rfl) T.b_isinstance bt_isinstance (pa_cons (pv 0) (pa_cons (pe_bltn (v := .ty "int") rfl T.b_int bt_int rfl) pa_nil))) (pe_one (pe_not (pe_callB (call_isiTK (K := K) rfl) (by rfl) T.b_isinstance bt_isinstance (pa_cons (pv 0) (pa_cons (pe_bltn (v := .ty "bool") rfl T.b_bool bt_bool rfl) pa_nil))))))))), ?_⟩
  cases v with
  | int i => exact ⟨_, rfl, _, _, _, _, rfl, .int i, kit_same, _, rfl, iteT ⟨_, rfl, _, _, _, _, rfl, .int i, (show PySem.W.kitOne K (.type "int") (.type "bool") = some false by rfl), _, rfl, k⟩⟩
  | str x => exact ⟨_, rfl, _, _, _, _, rfl, .str x, (show PySem.W.kitOne K (.type "str") (.type "int") = some false by rfl), _, rfl, iteF k⟩
  | _ => exact ok.elim
theorem ok_value_text (T : Txt w K mg) : FnOk P w K mg base CX0 1 T.value_text.f T.value_text.fd ["value"] sp_value_text := by
 refine T.value_text.fn.ok sc_value_text (fun vs H Q E h => ?_) (fun cdv A outer s H vs Q E hr h => ?_)
 ·obtain ⟨v, rfl, _⟩ := h
  rfl
 ·obtain ⟨v, rfl, ok, k⟩ := h
  refine ⟨_, ((pss_one (ps_ret (pe_callTy call_str_val (by rfl) T.b_str bt_str (pa_cons (pv 0) pa_nil))))), ?_⟩
  refine ⟨_, rfl, v, rfl, ?_, k⟩
  cases v with
  | int i => exact .inl ⟨i, rfl, log_ok ok⟩
  | str x => exact .inr ⟨x, rfl⟩
  | _ => exact ok.elim
theorem alike_scal {x y : V} (h : alike x y = true) : scal x y = true := by
 cases x <;> cases y <;> first | rfl | cases h
theorem str_dec (a b : Str) : decide (V.str a = V.str b) = decide (a = b) := by
 by_cases h : a = b
 ·subst h; simp
 ·have : ¬ V.str a = V.str b := fun z => h (by injection z)
  rw [decide_eq_false h, decide_eq_false this]
theorem ok_stands (T : Txt w K mg) : FnOk P w K mg base CX0 1 T.stands.f T.stands.fd ["sign", "one", "other"] sp_stands := by
 refine T.stands.fn.ok sc_stands (fun vs H Q E h => ?_) (fun cdv A outer s H vs Q E hr h => ?_)
 ·obtain ⟨s, x, y, rfl, _⟩ := h
  rfl
 ·obtain ⟨s, x, y, rfl, al, k⟩ := h
  refine ⟨_, ((pss_cons (ps_if (pt_cmpR op_eq (pv 0) pe_str (nomark _)) (pss_one (ps_ret (pe_cmpR op_eq (pv 1) (pv 2) (nomark _)))) pss_nil)
   (pss_cons (ps_if (pt_cmpR op_eq (pv 0) pe_str (nomark _)) (pss_one (ps_ret (pe_cmpR op_ne (pv 1) (pv 2) (nomark _)))) pss_nil)
   (pss_cons (ps_if (pt_cmpR op_eq (pv 0) pe_str (nomark _)) (pss_one (ps_ret (pe_cmpR (OpR.or op_lt op_lt_str) (pv 1) (pv 2) (nomark _)))) pss_nil)
   (pss_cons (ps_if (pt_cmpR op_eq (pv 0) pe_str (nomark _)) (pss_one (ps_ret (pe_cmpR (OpR.or op_le op_le_str) (pv 1) (pv 2) (nomark _)))) pss_nil)
   (pss_cons (ps_if (pt_cmpR op_eq (pv 0) pe_str (nomark _)) (pss_one (ps_ret (pe_cmpR (OpR.or op_gt op_gt_str) (pv 1) (pv 2) (nomark _)))) pss_nil)
   (pss_one (ps_ret (pe_cmpR (OpR.or op_ge op_ge_str) (pv 1) (pv 2) (nomark _)))))))))), ?_⟩
  unfold stV at k
  refine ⟨_, rfl, rfl, _, rfl, ite2 (fun z => ?_) (fun z => ?_)⟩
  ·have e : s = "=" := by rw [str_dec] at z; exact of_decide_eq_true z
   rw [if_pos e] at k
   exact ⟨_, rfl, _, rfl, alike_scal al, k⟩
  have z1 : ¬ s = "=" := by rw [str_dec] at z; exact of_decide_eq_false (by simpa using z)
  rw [if_neg z1] at k
  refine ⟨_, rfl, rfl, _, rfl, ite2 (fun z => ?_) (fun z => ?_)⟩
  ·have e : s = "<>" := by rw [str_dec] at z; exact of_decide_eq_true z
   rw [if_pos e] at k
   exact ⟨_, rfl, _, rfl, alike_scal al, k⟩
  have z2 : ¬ s = "<>" := by rw [str_dec] at z; exact of_decide_eq_false (by simpa using z)
  rw [if_neg z2] at k
  refine ⟨_, rfl, rfl, _, rfl, ite2 (fun z => ?_) (fun z => ?_)⟩
  ·have e : s = "<" := by rw [str_dec] at z; exact of_decide_eq_true z
   rw [if_pos e] at k
   refine ⟨_, rfl, _, rfl, ?_⟩
   cases x <;> cases y <;> first | exact .inl ⟨_, _, rfl, rfl, k⟩ | exact .inr ⟨_, _, rfl, rfl, k⟩ | cases al
  have z3 : ¬ s = "<" := by rw [str_dec] at z; exact of_decide_eq_false (by simpa using z)
  rw [if_neg z3] at k
  refine ⟨_, rfl, rfl, _, rfl, ite2 (fun z => ?_) (fun z => ?_)⟩
  ·have e : s = "<=" := by rw [str_dec] at z; exact of_decide_eq_true z
   rw [if_pos e] at k
   refine ⟨_, rfl, _, rfl, ?_⟩
   cases x <;> cases y <;> first | exact .inl ⟨_, _, rfl, rfl, k⟩ | exact .inr ⟨_, _, rfl, rfl, k⟩ | cases al
  have z4 : ¬ s = "<=" := by rw [str_dec] at z; exact of_decide_eq_false (by simpa using z)
  rw [if_neg z4] at k
  refine ⟨_, rfl, rfl, _, rfl, ite2 (fun z => ?_) (fun z => ?_)⟩
  ·have e : s = ">" := by rw [str_dec] at z; exact of_decide_eq_true z
   rw [if_pos e] at k
   refine ⟨_, rfl, _, rfl, ?_⟩
   cases x <;> cases y <;> first | exact .inl ⟨_, _, rfl, rfl, k⟩ | exact .inr ⟨_, _, rfl, rfl, k⟩ | cases al
  have z5 : ¬ s = ">" := by rw [str_dec] at z; exact of_decide_eq_false (by simpa using z)
  rw [if_neg z5] at k
  refine ⟨_, rfl, _, rfl, ?_⟩
  cases x <;> cases y <;> first | exact .inl ⟨_, _, rfl, rfl, k⟩ | exact .inr ⟨_, _, rfl, rfl, k⟩ | cases al
theorem ok_kind_of_value (T : Txt w K mg) : FnOk P w K mg base CX0 2 T.kind_of_value.f T.kind_of_value.fd ["value"] sp_kind_of_value := by
 have G_is_whole : FnOk P w K mg base CX0 1 T.is_whole.f T.is_whole.fd _ _ := ok_is_whole T
 refine T.kind_of_value.fn.ok sc_kind_of_value (fun vs H Q E h => ?_) (fun cdv A outer s H vs Q E hr h => ?_)
 ·obtain ⟨v, rfl, _⟩ := h
  rfl
 ·obtain ⟨v, rfl, ok, k⟩ := h
  refine ⟨_, ((pss_one (ps_ret (pe_ifExp (pt_val (pe_own G_is_whole (hr.mono (by omega)) rfl (pa_cons (pv 0) pa_nil))) pe_str pe_str)))), ?_⟩
  refine ⟨_, rfl, _, rfl, ok, _, rfl, ?_⟩
  cases v with
  | int i => exact iteT k
  | str x => exact iteF k
  | _ => exact ok.elim
theorem num_len {i : Int} (h : i.natAbs ≤ 1000000000) : ((toString i : String) : Str).length ≤ 20 := by
 show (PySem.Str.ofString (toString i)).length ≤ 20
 rcases Int.lt_or_le i 0 with n | n
 ·rw [len_text_neg n]
  have := PySem.W.KT.len_num (n := 0 - i) (by omega) (show 0 - i < 10 ^ 10 by omega)
  omega
 ·have := PySem.W.KT.len_num n (show i < 10 ^ 10 by omega)
  omega
theorem ok_atom_text (T : Txt w K mg) : FnOk P w K mg base CX0 2 T.atom_text.f T.atom_text.fd ["atom"] sp_atom_text := by
 have G_is_whole : FnOk P w K mg base CX0 1 T.is_whole.f T.is_whole.fd _ _ := ok_is_whole T
 have G_value_text : FnOk P w K mg base CX0 1 T.value_text.f T.value_text.fd _ _ := ok_value_text T
 refine T.atom_text.fn.ok sc_atom_text (fun vs H Q E h => ?_) (fun cdv A outer s H vs Q E hr h => ?_)
 ·obtain ⟨b, r, rfl, _⟩ := h
  rfl
 ·obtain ⟨b, r, rfl, hb, ok, k⟩ := h
  refine ⟨_, ((pss_cons (ps_if (pt_cmpR op_eq (pe_ix (ix_tupK (K := K) rfl) (pv 0) pe_int (fun _ _ => rfl)) pe_str (nomark _)) (pss_one (ps_ret (pe_ix (ix_tupK (K := K) rfl) (pv 0) pe_int (fun _ _ => rfl)))) pss_nil)
   (pss_cons (ps_set (i := 1) sc_atom_text.nd rfl (Or.inl rfl) (pe_own G_value_text (hr.mono (by omega)) rfl (pa_cons (pe_ix (ix_tupK (K := K) rfl) (pv 0) pe_int (fun _ _ => rfl)) pa_nil)))
   (pss_one (ps_ret (pe_ifExp (pt_val (pe_own G_is_whole (hr.mono (by omega)) rfl (pa_cons (pe_ix (ix_tupK (K := K) rfl) (pv 0) pe_int (fun _ _ => rfl)) pa_nil))) (pv 1) (pe_op op_add_str (pe_op op_add_str pe_str (pv 1)) pe_str))))))), ?_⟩
  refine ⟨_, rfl, b, _, _, _, rfl, rfl, SqT.of hb, rfl, rfl, _, rfl, ?_⟩
  cases r with
  | col n => exact ite2 (fun _ => ⟨_, rfl, b, _, _, _, rfl, rfl, SqT.of hb, rfl, k⟩) (fun z => absurd (decide_eq_true rfl) z)
  | num i =>
   refine ite2 (fun z => absurd (of_decide_eq_true z) (show ¬ V.str "value" = V.str "column" by decide +kernel)) (fun _ => ?_)
   refine ⟨_, rfl, b, _, _, _, rfl, rfl, SqT.of hb, rfl, _, rfl, ok, ?_⟩
   exact ⟨_, rfl, b, _, _, _, rfl, rfl, SqT.of hb, rfl, _, rfl, ok, _, rfl, iteT ⟨_, rfl, k⟩⟩
  | wrd x =>
   refine ite2 (fun z => absurd (of_decide_eq_true z) (show ¬ V.str "value" = V.str "column" by decide +kernel)) (fun _ => ?_)
   refine ⟨_, rfl, b, _, _, _, rfl, rfl, SqT.of hb, rfl, _, rfl, trivial, ?_⟩
   have ok : x.length ≤ 8 := ok
   refine ⟨_, rfl, b, _, _, _, rfl, rfl, SqT.of hb, rfl, _, rfl, trivial, _, rfl, iteF ⟨_, rfl, _, _, rfl, rfl, ?_, _, _, rfl, rfl, ?_, k⟩⟩
   ·exact small_line (by rw [show ("'" : Str).length = 1 by decide +kernel]; show 1 + x.length ≤ 100000; omega)
   ·refine small_line ?_
    show ("'" ++ x : Str).length + ("'" : Str).length ≤ 100000
    rw [show ("'" ++ x : Str).length = ("'" : Str).length + x.length from Array.size_append, show ("'" : Str).length = 1 by decide +kernel]
    omega
theorem ok_NoColumn___init__ (T : Txt w K mg) : FnOk P w K mg base CX0 1 T.NoColumn___init__.f T.NoColumn___init__.fd ["self", "name"] (sp_xi T.C_NoColumn ["name"]) := by
 refine T.NoColumn___init__.fn.ok sc_NoColumn___init__ (xi_len rfl) (fun cdv A outer s H vs Q E hr h => ?_)
 obtain ⟨p, ys, rfl, l, hp, q⟩ := h
 match ys, l, q with
 | [y0], _, q =>
  refine ⟨_, ((pss_one (ps_xfld (K := K) rfl rfl (pv 0) (pv 1) rfl))), ?_⟩
  exact ⟨_, rfl, _, rfl, p, T.C_NoColumn, true, rfl, T.s_NoColumn_name, .inl ⟨hp, fun d hd ne => q d hd ne⟩⟩
theorem ok_WrongKind___init__ (T : Txt w K mg) : FnOk P w K mg base CX0 1 T.WrongKind___init__.f T.WrongKind___init__.fd ["self", "name"] (sp_xi T.C_WrongKind ["name"]) := by
 refine T.WrongKind___init__.fn.ok sc_WrongKind___init__ (xi_len rfl) (fun cdv A outer s H vs Q E hr h => ?_)
 obtain ⟨p, ys, rfl, l, hp, q⟩ := h
 match ys, l, q with
 | [y0], _, q =>
  refine ⟨_, ((pss_one (ps_xfld (K := K) rfl rfl (pv 0) (pv 1) rfl))), ?_⟩
  exact ⟨_, rfl, _, rfl, p, T.C_WrongKind, true, rfl, T.s_WrongKind_name, .inl ⟨hp, fun d hd ne => q d hd ne⟩⟩
theorem ok_Compare___init__ (T : Txt w K mg) : FnOk P w K mg base CX0 1 T.Compare___init__.f T.Compare___init__.fd ["self", "left", "sign", "right"] (sp_init T.C_Compare ["left", "sign", "right"]) := by
 refine T.Compare___init__.fn.ok sc_Compare___init__ (init_len rfl) (fun cdv A outer s H vs Q E hr h => ?_)
 obtain ⟨p, dx, ys, rfl, l, hp, q⟩ := h
 match ys, l, q with
 | [y0, y1, y2], _, q =>
  refine ⟨_, ((pss_cons (ps_fld (pv 0) (pv 1) rfl)
   (pss_cons (ps_fld (pv 0) (pv 2) rfl)
   (pss_one (ps_fld (pv 0) (pv 3) rfl))))), ?_⟩
  refine ⟨_, rfl, _, rfl, p, T.C_Compare, dx, [], rfl, hp, T.l_Compare, T.n_Compare_left, (show 0 < 1000 by decide), ?_⟩
  refine ⟨_, rfl, _, rfl, p, T.C_Compare, dx, _, rfl, upd_same, T.l_Compare, T.n_Compare_sign, (show 1 < 1000 by decide), ?_⟩
  refine ⟨_, rfl, _, rfl, p, T.C_Compare, dx, _, rfl, upd_same, T.l_Compare, T.n_Compare_right, (show 2 < 1000 by decide), ?_⟩
  rw [upd_upd, upd_upd]
  exact q
theorem ok_And___init__ (T : Txt w K mg) : FnOk P w K mg base CX0 1 T.And___init__.f T.And___init__.fd ["self", "first", "second"] (sp_init T.C_And ["first", "second"]) := by
 refine T.And___init__.fn.ok sc_And___init__ (init_len rfl) (fun cdv A outer s H vs Q E hr h => ?_)
 obtain ⟨p, dx, ys, rfl, l, hp, q⟩ := h
 match ys, l, q with
 | [y0, y1], _, q =>
  refine ⟨_, ((pss_cons (ps_fld (pv 0) (pv 1) rfl)
   (pss_one (ps_fld (pv 0) (pv 2) rfl)))), ?_⟩
  refine ⟨_, rfl, _, rfl, p, T.C_And, dx, [], rfl, hp, T.l_And, T.n_And_first, (show 0 < 1000 by decide), ?_⟩
  refine ⟨_, rfl, _, rfl, p, T.C_And, dx, _, rfl, upd_same, T.l_And, T.n_And_second, (show 1 < 1000 by decide), ?_⟩
  rw [upd_upd]
  exact q
theorem ok_Or___init__ (T : Txt w K mg) : FnOk P w K mg base CX0 1 T.Or___init__.f T.Or___init__.fd ["self", "first", "second"] (sp_init T.C_Or ["first", "second"]) := by
 refine T.Or___init__.fn.ok sc_Or___init__ (init_len rfl) (fun cdv A outer s H vs Q E hr h => ?_)
 obtain ⟨p, dx, ys, rfl, l, hp, q⟩ := h
 match ys, l, q with
 | [y0, y1], _, q =>
  refine ⟨_, ((pss_cons (ps_fld (pv 0) (pv 1) rfl)
   (pss_one (ps_fld (pv 0) (pv 2) rfl)))), ?_⟩
  refine ⟨_, rfl, _, rfl, p, T.C_Or, dx, [], rfl, hp, T.l_Or, T.n_Or_first, (show 0 < 1000 by decide), ?_⟩
  refine ⟨_, rfl, _, rfl, p, T.C_Or, dx, _, rfl, upd_same, T.l_Or, T.n_Or_second, (show 1 < 1000 by decide), ?_⟩
  rw [upd_upd]
  exact q
theorem ok_Not___init__ (T : Txt w K mg) : FnOk P w K mg base CX0 1 T.Not___init__.f T.Not___init__.fd ["self", "inside"] (sp_init T.C_Not ["inside"]) := by
 refine T.Not___init__.fn.ok sc_Not___init__ (init_len rfl) (fun cdv A outer s H vs Q E hr h => ?_)
 obtain ⟨p, dx, ys, rfl, l, hp, q⟩ := h
 match ys, l, q with
 | [y0], _, q =>
  refine ⟨_, ((pss_one (ps_fld (pv 0) (pv 1) rfl))), ?_⟩
  exact ⟨_, rfl, _, rfl, p, T.C_Not, dx, [], rfl, hp, T.l_Not, T.n_Not_inside, (show 0 < 1000 by decide), q⟩
end
def sp_told (C : KC → Addr) (d : Nat) (k : KC) : Sp := fun vs H Q _ => ∃ c v, vs = [v] ∧ c.k = k ∧ c.dp ≤ d ∧ CO C H c v ∧ ∀ r H', Same H H' → Tld H' c r → Q r H'
def sp_text (C : KC → Addr) (d : Nat) (k : KC) : Sp := fun vs H Q _ => ∃ c v, vs = [v] ∧ c.k = k ∧ c.dp ≤ d ∧ CO C H c v ∧ c.ok ∧ c.dp ≤ 8 ∧ ∀ H', Same H H' → Q (.str c.txt) H'
def sp_ties (k : KC) : Sp := fun vs H Q _ => ∃ (c : Cn) (v : V), vs = [v] ∧ c.k = k ∧ Q (.int (tyT c)) H
def sp_holds (C : KC → Addr) (d : Nat) (k : KC) : Sp := fun vs H Q _ => ∃ (c : Cn) (v : V) (a : Addr) (ρ : Row), vs = [v, .ref a] ∧ c.k = k ∧ c.dp ≤ d ∧ CO C H c v ∧ H a = some (.dK ρ) ∧ fitsC ρ c ∧ Q (.bl (c.hold ρ)) H
def sp_names (C : KC → Addr) (d : Nat) (k : KC) : Sp := fun vs H Q _ => ∃ c v, vs = [v] ∧ c.k = k ∧ c.dp ≤ d ∧ c.dp ≤ 8 ∧ CO C H c v ∧ ∀ l H', H l = none → Same H H' → H' l = some (.lst (c.names.map V.str)) → Q (.ref l) H'
def sp_clear (C : KC → Addr) (d : Nat) (k : KC) : Sp := fun vs H Q _ => ∃ c v, vs = [v] ∧ c.k = k ∧ c.dp ≤ d ∧ CO C H c v ∧ c.ok ∧ ∀ r H', Same H H' → CO C H' c.clr r → Q r H'
def sp_oppo (C : KC → Addr) (d : Nat) (k : KC) : Sp := fun vs H Q _ => ∃ c v, vs = [v] ∧ c.k = k ∧ c.dp ≤ d ∧ CO C H c v ∧ c.ok ∧ ∀ r H', Same H H' → CO C H' c.opp r → Q r H'
def texts (κ : Row) : Prop := ∀ p ∈ κ, ∃ x, p.2 = V.str x
def sp_judged (C : KC → Addr) (N W : Addr) (d : Nat) (k : KC) : Sp := fun vs H Q E => ∃ (c : Cn) (v : V) (a : Addr) (κ : Row), vs = [v, .ref a] ∧ c.k = k ∧ c.dp ≤ d ∧ CO C H c v ∧ c.ok ∧ H a = some (.dK κ) ∧ texts κ ∧
 (c.fault κ = none → ∀ H', Same H H' → Q .non H') ∧ ∀ b n, c.fault κ = some (b, n) → Comes (if b then N else W) H E [("name", .str n)]
def sp_parts2 (C : Addr) : Sp := fun vs H Q _ => ∃ a dx x y, vs = [.ref a] ∧ H a = some (.ins C dx (twoF x y)) ∧ ∀ l, H l = none → Q (.ref l) (upd H l (.lst [x, y]))
def sp_parts1 (C : Addr) : Sp := fun vs H Q _ => ∃ a dx x, vs = [.ref a] ∧ H a = some (.ins C dx (oneF x)) ∧ ∀ l, H l = none → Q (.ref l) (upd H l (.lst [x]))
def sp_rv (C : KC → Addr) : Sp := fun vs H Q _ => ∃ (l s : Str) (r : At) (v : V) (a : Addr) (ρ : Row) (y : V), vs = [v, .ref a] ∧ CO C H (.cmp l s r) v ∧ H a = some (.dK ρ) ∧ r.val ρ = some y ∧ Q y H
def sp_rk (C : KC → Addr) : Sp := fun vs H Q _ => ∃ (l s : Str) (r : At) (v : V) (a : Addr) (κ : Row) (y : V), vs = [v, .ref a] ∧ CO C H (.cmp l s r) v ∧ r.ok ∧ H a = some (.dK κ) ∧ r.kd κ = some y ∧ Q y H
theorem cmp_of {c : Cn} (h : c.k = .cm) : ∃ l s r, c = .cmp l s r := by
 cases c <;> first | exact ⟨_, _, _, rfl⟩ | cases h
theorem an_of {c : Cn} (h : c.k = .an) : ∃ a b, c = .an a b := by
 cases c <;> first | exact ⟨_, _, rfl⟩ | cases h
theorem or_of {c : Cn} (h : c.k = .or) : ∃ a b, c = .or a b := by
 cases c <;> first | exact ⟨_, _, rfl⟩ | cases h
theorem nt_of {c : Cn} (h : c.k = .nt) : ∃ a, c = .nt a := by
 cases c <;> first | exact ⟨_, rfl⟩ | cases h
theorem look_get {H : Hp} {a : Addr} {ρ : Row} {n : Str} {v : V} (h : H a = some (.dK ρ)) (e : look ρ n = some v) : DGet H a (.str n) (some v) := by
 have := DGet.k (k := (Sum.inr n : Key)) h
 rw [show valV ρ (Sum.inr n : Key) = some v from e] at this
 exact this
theorem look_no2 {H : Hp} {a : Addr} {ρ : Row} {n : Str} (h : H a = some (.dK ρ)) (e : look ρ n = none) : DGet H a (.str n) none := by
 have := DGet.k (k := (Sum.inr n : Key)) h
 rw [show valV ρ (Sum.inr n : Key) = none from e] at this
 exact this
theorem not_col : ¬ V.str "value" = V.str "column" := by decide +kernel
theorem opp_some {s : Str} (h : okS s) : kv_OPPOSITE.lookup s = some (oppS s) := by
 unfold okS at h
 unfold oppS
 simp only [List.mem_cons, List.not_mem_nil, or_false] at h
 rcases h with rfl | rfl | rfl | rfl | rfl | rfl <;> (simp only [kv_OPPOSITE]; kernel_rfl)
section
variable {P : Program} {w : World} {K : PySem.W.Frag} {mg : Str → Option Value} {base : Heap}
theorem ok_Compare_right_value (T : Txt w K mg) : FnOk P w K mg base CX0 1 T.Compare_right_value.f T.Compare_right_value.fd ["self", "values"] (sp_rv (clsOf T)) := by
 refine T.Compare_right_value.fn.ok sc_Compare_right_value (fun vs H Q E h => ?_) (fun cdv A outer s H vs Q E hr h => ?_)
 ·obtain ⟨_, _, _, _, _, _, _, rfl, _⟩ := h
  rfl
 ·obtain ⟨l, sg, r, v, a, ρ, y, rfl, hC, ha, hy, q⟩ := h
  obtain ⟨p, dx, b, rfl, hp, hb⟩ := hC
  have hu1 := hu_of hr
  refine ⟨_, ((pss_one (ps_ret (pe_ifExp (pt_cmpR op_eq (pe_ix (ix_tupK (K := K) rfl) (pe_fldK (K := K) rfl (pv 0) rfl) pe_int (fun _ _ => rfl)) pe_str (nomark _)) (pe_dget hu1 (pv 1) (pe_ix (ix_tupK (K := K) rfl) (pe_fldK (K := K) rfl (pv 0) rfl) pe_int (fun _ _ => rfl)) (fun _ _ => rfl)) (pe_ix (ix_tupK (K := K) rfl) (pe_fldK (K := K) rfl (pv 0) rfl) pe_int (fun _ _ => rfl)))))), ?_⟩
  refine ⟨_, rfl, p, T.C_Compare, dx, _, _, rfl, hp, T.l_Compare, T.n_Compare_right, cm_r .., b, _, _, _, rfl, rfl, SqT.of hb, rfl, rfl, _, rfl, ?_⟩
  cases r with
  | col n =>
   refine ite2 (fun _ => ?_) (fun z => absurd (decide_eq_true rfl) z)
   exact ⟨_, rfl, _, rfl, p, T.C_Compare, dx, _, _, rfl, hp, T.l_Compare, T.n_Compare_right, cm_r .., b, _, _, _, rfl, rfl, SqT.of hb, rfl, a, y, rfl, look_get ha hy, q⟩
  | num i =>
   refine ite2 (fun z => absurd (of_decide_eq_true z) not_col) (fun _ => ?_)
   cases hy
   exact ⟨_, rfl, p, T.C_Compare, dx, _, _, rfl, hp, T.l_Compare, T.n_Compare_right, cm_r .., b, _, _, _, rfl, rfl, SqT.of hb, rfl, q⟩
  | wrd x =>
   refine ite2 (fun z => absurd (of_decide_eq_true z) not_col) (fun _ => ?_)
   cases hy
   exact ⟨_, rfl, p, T.C_Compare, dx, _, _, rfl, hp, T.l_Compare, T.n_Compare_right, cm_r .., b, _, _, _, rfl, rfl, SqT.of hb, rfl, q⟩
theorem ok_Compare_right_kind (T : Txt w K mg) : FnOk P w K mg base CX0 3 T.Compare_right_kind.f T.Compare_right_kind.fd ["self", "kinds"] (sp_rk (clsOf T)) := by
 have G_kind_of_value : FnOk P w K mg base CX0 2 T.kind_of_value.f T.kind_of_value.fd _ _ := ok_kind_of_value T
 refine T.Compare_right_kind.fn.ok sc_Compare_right_kind (fun vs H Q E h => ?_) (fun cdv A outer s H vs Q E hr h => ?_)
 ·obtain ⟨_, _, _, _, _, _, _, rfl, _⟩ := h
  rfl
 ·obtain ⟨l, sg, r, v, a, ρ, y, rfl, hC, ok, ha, hy, q⟩ := h
  obtain ⟨p, dx, b, rfl, hp, hb⟩ := hC
  have hu1 := hu_of hr
  refine ⟨_, ((pss_one (ps_ret (pe_ifExp (pt_cmpR op_eq (pe_ix (ix_tupK (K := K) rfl) (pe_fldK (K := K) rfl (pv 0) rfl) pe_int (fun _ _ => rfl)) pe_str (nomark _)) (pe_dget hu1 (pv 1) (pe_ix (ix_tupK (K := K) rfl) (pe_fldK (K := K) rfl (pv 0) rfl) pe_int (fun _ _ => rfl)) (fun _ _ => rfl)) (pe_own G_kind_of_value (hr.mono (by omega)) rfl (pa_cons (pe_ix (ix_tupK (K := K) rfl) (pe_fldK (K := K) rfl (pv 0) rfl) pe_int (fun _ _ => rfl)) pa_nil)))))), ?_⟩
  refine ⟨_, rfl, p, T.C_Compare, dx, _, _, rfl, hp, T.l_Compare, T.n_Compare_right, cm_r .., b, _, _, _, rfl, rfl, SqT.of hb, rfl, rfl, _, rfl, ?_⟩
  cases r with
  | col n =>
   refine ite2 (fun _ => ?_) (fun z => absurd (decide_eq_true rfl) z)
   exact ⟨_, rfl, _, rfl, p, T.C_Compare, dx, _, _, rfl, hp, T.l_Compare, T.n_Compare_right, cm_r .., b, _, _, _, rfl, rfl, SqT.of hb, rfl, a, y, rfl, look_get ha hy, q⟩
  | num i =>
   refine ite2 (fun z => absurd (of_decide_eq_true z) not_col) (fun _ => ?_)
   cases hy
   exact ⟨_, rfl, p, T.C_Compare, dx, _, _, rfl, hp, T.l_Compare, T.n_Compare_right, cm_r .., b, _, _, _, rfl, rfl, SqT.of hb, rfl, _, rfl, ok, q⟩
  | wrd x =>
   refine ite2 (fun z => absurd (of_decide_eq_true z) not_col) (fun _ => ?_)
   cases hy
   exact ⟨_, rfl, p, T.C_Compare, dx, _, _, rfl, hp, T.l_Compare, T.n_Compare_right, cm_r .., b, _, _, _, rfl, rfl, SqT.of hb, rfl, _, rfl, trivial, q⟩
theorem ok_Compare_holds (T : Txt w K mg) (d : Nat) : FnOk P w K mg base CX0 2 T.Compare_holds.f T.Compare_holds.fd ["self", "values"] (sp_holds (clsOf T) d .cm) := by
 have G_stands : FnOk P w K mg base CX0 1 T.stands.f T.stands.fd _ _ := ok_stands T
 have G_Compare_right_value : FnOk P w K mg base CX0 1 T.Compare_right_value.f T.Compare_right_value.fd _ _ := ok_Compare_right_value T
 refine T.Compare_holds.fn.ok sc_Compare_holds (fun vs H Q E h => ?_) (fun cdv A outer s H vs Q E hr h => ?_)
 ·obtain ⟨_, _, _, _, rfl, _⟩ := h
  rfl
 ·obtain ⟨c, v, a, ρ, rfl, hk, _, hC, ha, hf, q⟩ := h
  obtain ⟨l, sg, r, rfl⟩ := cmp_of hk
  have hC' := hC
  obtain ⟨p, dx, b, rfl, hp, hb⟩ := hC
  obtain ⟨x, y, e1, e2, al⟩ := hf
  have hu1 := hu_of hr
  have n1 : (cmF l sg b).lookup ("right_value" : Str) = none := by rw [cmF, look_no nf_rv.1, look_no nf_rv.2.1, look_no nf_rv.2.2.1]; rfl
  refine ⟨_, ((pss_one (ps_ret (pe_own G_stands (hr.mono (by omega)) rfl (pa_cons (pe_fldK (K := K) rfl (pv 0) rfl) (pa_cons (pe_dget hu1 (pv 1) (pe_fldK (K := K) rfl (pv 0) rfl) (fun _ _ => rfl)) (pa_cons (pe_mown T.l_Compare G_Compare_right_value (hr.mono (by omega)) (pv 0) (pa_cons (pv 1) pa_nil)) pa_nil))))))), ?_⟩
  refine ⟨_, rfl, p, T.C_Compare, dx, _, _, rfl, hp, T.l_Compare, T.n_Compare_sign, cm_s .., ?_⟩
  refine ⟨_, rfl, _, rfl, p, T.C_Compare, dx, _, _, rfl, hp, T.l_Compare, T.n_Compare_left, cm_l .., a, x, rfl, look_get ha e1, ?_⟩
  refine ⟨_, rfl, p, dx, _, rfl, hp, n1, _, rfl, l, sg, r, _, a, ρ, y, rfl, hC', ha, e2, ?_⟩
  refine ⟨sg, x, y, rfl, al, ?_⟩
  have : (Cn.cmp l sg r).hold ρ = stV sg x y := by simp only [Cn.hold, e1, e2, Option.getD_some]
  rw [← this]
  exact q
theorem ok_Compare_names_as_told (T : Txt w K mg) (d : Nat) : FnOk P w K mg base CX0 1 T.Compare_names_as_told.f T.Compare_names_as_told.fd ["self"] (sp_names (clsOf T) d .cm) := by
 refine T.Compare_names_as_told.fn.ok sc_Compare_names_as_told (fun vs H Q E h => ?_) (fun cdv A outer s H vs Q E hr h => ?_)
 ·obtain ⟨_, _, rfl, _⟩ := h
  rfl
 ·obtain ⟨c, v, rfl, hk, _, _, hC, q⟩ := h
  obtain ⟨l, sg, r, rfl⟩ := cmp_of hk
  obtain ⟨p, dx, b, rfl, hp, hb⟩ := hC
  refine ⟨_, ((pss_one (ps_ret (pe_ifExp (pt_cmpR op_eq (pe_ix (ix_tupK (K := K) rfl) (pe_fldK (K := K) rfl (pv 0) rfl) pe_int (fun _ _ => rfl)) pe_str (nomark _)) (pe_lst (pa_cons (pe_fldK (K := K) rfl (pv 0) rfl) (pa_cons (pe_ix (ix_tupK (K := K) rfl) (pe_fldK (K := K) rfl (pv 0) rfl) pe_int (fun _ _ => rfl)) pa_nil))) (pe_lst (pa_cons (pe_fldK (K := K) rfl (pv 0) rfl) pa_nil)))))), ?_⟩
  refine ⟨_, rfl, p, T.C_Compare, dx, _, _, rfl, hp, T.l_Compare, T.n_Compare_right, cm_r .., b, _, _, _, rfl, rfl, SqT.of hb, rfl, rfl, _, rfl, ?_⟩
  cases r with
  | col n =>
   refine ite2 (fun _ => ?_) (fun z => absurd (decide_eq_true rfl) z)
   refine ⟨_, rfl, p, T.C_Compare, dx, _, _, rfl, hp, T.l_Compare, T.n_Compare_left, cm_l .., _, rfl, p, T.C_Compare, dx, _, _, rfl, hp, T.l_Compare, T.n_Compare_right, cm_r .., b, _, _, _, rfl, rfl, SqT.of hb, rfl, small_line (show 2 ≤ 100000 by decide), fun u hu => ?_⟩
   exact q u _ hu (Same.new hu) upd_same
  | num i =>
   refine ite2 (fun z => absurd (of_decide_eq_true z) not_col) (fun _ => ?_)
   exact ⟨_, rfl, p, T.C_Compare, dx, _, _, rfl, hp, T.l_Compare, T.n_Compare_left, cm_l .., small_line (show 1 ≤ 100000 by decide), fun u hu => q u _ hu (Same.new hu) upd_same⟩
  | wrd x =>
   refine ite2 (fun z => absurd (of_decide_eq_true z) not_col) (fun _ => ?_)
   exact ⟨_, rfl, p, T.C_Compare, dx, _, _, rfl, hp, T.l_Compare, T.n_Compare_left, cm_l .., small_line (show 1 ≤ 100000 by decide), fun u hu => q u _ hu (Same.new hu) upd_same⟩
theorem ok_Compare_cleared (T : Txt w K mg) (d : Nat) : FnOk P w K mg base CX0 1 T.Compare_cleared.f T.Compare_cleared.fd ["self"] (sp_clear (clsOf T) d .cm) := by
 refine T.Compare_cleared.fn.ok sc_Compare_cleared (fun vs H Q E h => ?_) (fun cdv A outer s H vs Q E hr h => ?_)
 ·obtain ⟨_, _, rfl, _⟩ := h
  rfl
 ·obtain ⟨c, v, rfl, hk, _, hC, _, q⟩ := h
  obtain ⟨l, sg, r, rfl⟩ := cmp_of hk
  refine ⟨_, ((pss_one (ps_ret (pv 0)))), ?_⟩
  exact ⟨_, rfl, q _ _ (Same.refl _) hC⟩
theorem ok_Compare_opposite (T : Txt w K mg) (d : Nat) : FnOk P w K mg base CX0 3 T.Compare_opposite.f T.Compare_opposite.fd ["self"] (sp_oppo (clsOf T) d .cm) := by
 have G_Compare___init__ : FnOk P w K mg base CX0 1 T.Compare___init__.f T.Compare___init__.fd _ _ := ok_Compare___init__ T
 refine T.Compare_opposite.fn.ok sc_Compare_opposite (fun vs H Q E h => ?_) (fun cdv A outer s H vs Q E hr h => ?_)
 ·obtain ⟨_, _, rfl, _⟩ := h
  rfl
 ·obtain ⟨c, v, rfl, hk, _, hC, ok, q⟩ := h
  obtain ⟨l, sg, r, rfl⟩ := cmp_of hk
  obtain ⟨p, dx, b, rfl, hp, hb⟩ := hC
  refine ⟨_, ((pss_one (ps_ret (pe_make T.k_Compare G_Compare___init__ (hr.mono (by omega)) rfl T.c_Compare T.Compare___init__.bi .nil pass0 (pa_cons (pe_fldK (K := K) rfl (pv 0) rfl) (pa_cons (pe_kdv (K := K) (w := w) rfl rfl T.v_OPPOSITE nd_OPPOSITE (pe_glob (v := .ref T.D_OPPOSITE) rfl T.c_OPPOSITE rfl) (pe_fldK (K := K) rfl (pv 0) rfl) (fun _ _ => rfl)) (pa_cons (pe_fldK (K := K) rfl (pv 0) rfl) pa_nil))))))), ?_⟩
  refine ⟨_, rfl, p, T.C_Compare, dx, _, _, rfl, hp, T.l_Compare, T.n_Compare_left, cm_l .., ?_⟩
  refine ⟨_, rfl, p, T.C_Compare, dx, _, _, rfl, hp, T.l_Compare, T.n_Compare_sign, cm_s .., sg, _, rfl, rfl, opp_some ok.2.1, ?_⟩
  refine ⟨_, rfl, p, T.C_Compare, dx, _, _, rfl, hp, T.l_Compare, T.n_Compare_right, cm_r .., fun x dy hx hd ne => ?_⟩
  refine ⟨x, dy, [.str l, .str (oppS sg), .ref b], rfl, rfl, upd_same, rfl, ?_⟩
  obtain ⟨s2, e2⟩ := new_step (C := T.C_Compare) (fs := cmF l (oppS sg) b) hx hd ne
  exact q _ _ s2 ⟨x, dy, b, rfl, e2, hb.same s2⟩
theorem ok_Compare_told (T : Txt w K mg) (d : Nat) : FnOk P w K mg base CX0 1 T.Compare_told.f T.Compare_told.fd ["self"] (sp_told (clsOf T) d .cm) := by
 refine T.Compare_told.fn.ok sc_Compare_told (fun vs H Q E h => ?_) (fun cdv A outer s H vs Q E hr h => ?_)
 ·obtain ⟨_, _, rfl, _⟩ := h
  rfl
 ·obtain ⟨c, v, rfl, hk, _, hC, q⟩ := h
  obtain ⟨l, sg, r, rfl⟩ := cmp_of hk
  obtain ⟨p, dx, b, rfl, hp, hb⟩ := hC
  refine ⟨_, ((pss_one (ps_ret (pe_tup (pa_cons pe_str (pa_cons (pe_fldK (K := K) rfl (pv 0) rfl) (pa_cons (pe_fldK (K := K) rfl (pv 0) rfl) (pa_cons (pe_fldK (K := K) rfl (pv 0) rfl) pa_nil)))))))), ?_⟩
  refine ⟨_, rfl, p, T.C_Compare, dx, _, _, rfl, hp, T.l_Compare, T.n_Compare_left, cm_l .., ?_⟩
  refine ⟨_, rfl, p, T.C_Compare, dx, _, _, rfl, hp, T.l_Compare, T.n_Compare_sign, cm_s .., ?_⟩
  refine ⟨_, rfl, p, T.C_Compare, dx, _, _, rfl, hp, T.l_Compare, T.n_Compare_right, cm_r .., small_line (show 4 ≤ 100000 by decide), fun u hu => ?_⟩
  exact q _ _ (Same.new hu) ⟨u, b, rfl, upd_same, hb.same (Same.new hu)⟩
theorem at_len {r : At} (h : r.ok) : r.txt.length ≤ 20 := by
 cases r with
 | col n => exact h
 | num i => exact num_len h
 | wrd x =>
  have h : x.length ≤ 8 := h
  show (("'" ++ x : Str) ++ "'").length ≤ 20
  rw [show (("'" ++ x : Str) ++ "'" : Str).length = ("'" ++ x : Str).length + ("'" : Str).length from Array.size_append, show ("'" ++ x : Str).length = ("'" : Str).length + x.length from Array.size_append, show ("'" : Str).length = 1 by decide +kernel]
  omega
theorem sg_len {s : Str} (h : okS s) : s.length ≤ 2 := by
 unfold okS at h
 simp only [List.mem_cons, List.not_mem_nil, or_false] at h
 rcases h with rfl | rfl | rfl | rfl | rfl | rfl <;> decide +kernel
theorem ok_Compare_text (T : Txt w K mg) (d : Nat) : FnOk P w K mg base CX0 3 T.Compare_text.f T.Compare_text.fd ["self"] (sp_text (clsOf T) d .cm) := by
 have G_atom_text : FnOk P w K mg base CX0 2 T.atom_text.f T.atom_text.fd _ _ := ok_atom_text T
 refine T.Compare_text.fn.ok sc_Compare_text (fun vs H Q E h => ?_) (fun cdv A outer s H vs Q E hr h => ?_)
 ·obtain ⟨_, _, rfl, _⟩ := h
  rfl
 ·obtain ⟨c, v, rfl, hk, _, hC, ok, _, q⟩ := h
  obtain ⟨l, sg, r, rfl⟩ := cmp_of hk
  obtain ⟨p, dx, b, rfl, hp, hb⟩ := hC
  obtain ⟨ok1, ok2, ok3⟩ := ok
  refine ⟨_, ((pss_one (ps_ret (pe_bmK (K := K) rfl PySem.F.plainAttrs_str PySem.F.slot_str_join PySem.F.type_str_join (mt_joinK (K := K) rfl) pe_str (pa_cons (pe_lst (pa_cons (pe_fldK (K := K) rfl (pv 0) rfl) (pa_cons (pe_fldK (K := K) rfl (pv 0) rfl) (pa_cons (pe_own G_atom_text (hr.mono (by omega)) rfl (pa_cons (pe_fldK (K := K) rfl (pv 0) rfl) pa_nil)) pa_nil)))) pa_nil))))), ?_⟩
  refine ⟨rfl, _, rfl, p, T.C_Compare, dx, _, _, rfl, hp, T.l_Compare, T.n_Compare_left, cm_l .., ?_⟩
  refine ⟨_, rfl, p, T.C_Compare, dx, _, _, rfl, hp, T.l_Compare, T.n_Compare_sign, cm_s .., ?_⟩
  refine ⟨_, rfl, p, T.C_Compare, dx, _, _, rfl, hp, T.l_Compare, T.n_Compare_right, cm_r .., b, r, rfl, hb, ok3, small_line (show 3 ≤ 100000 by decide), fun u hu => ?_⟩
  refine ⟨_, u, [l, sg, r.txt], rfl, rfl, SqL.of upd_same, ?_, q _ (Same.new hu)⟩
  have := at_len ok3
  have := sg_len ok2
  show (l.length + (sg.length + (r.txt.length + 0))) + 3 * (" " : Str).length ≤ 16777216
  rw [show (" " : Str).length = 1 by decide +kernel]
  omega
theorem ok_Compare_ties (T : Txt w K mg) : FnOk P w K mg base CX0 1 T.Compare_ties.f T.Compare_ties.fd ["self"] (sp_ties .cm) := by
 refine T.Compare_ties.fn.ok sc_Compare_ties (fun vs H Q E h => ?_) (fun cdv A outer s H vs Q E hr h => ?_)
 ·obtain ⟨_, _, rfl, _⟩ := h
  rfl
 ·obtain ⟨c, v, rfl, hk, q⟩ := h
  obtain ⟨l, sg, r, rfl⟩ := cmp_of hk
  exact ⟨_, ((pss_one (ps_ret (pe_glob rfl T.c_ALONE_TIES (T.r_ALONE_TIES))))), q⟩
theorem ok_And_ties (T : Txt w K mg) : FnOk P w K mg base CX0 1 T.And_ties.f T.And_ties.fd ["self"] (sp_ties .an) := by
 refine T.And_ties.fn.ok sc_And_ties (fun vs H Q E h => ?_) (fun cdv A outer s H vs Q E hr h => ?_)
 ·obtain ⟨_, _, rfl, _⟩ := h
  rfl
 ·obtain ⟨c, v, rfl, hk, q⟩ := h
  obtain ⟨x, y, rfl⟩ := an_of hk
  exact ⟨_, ((pss_one (ps_ret (pe_glob rfl T.c_AND_TIES (T.r_AND_TIES))))), q⟩
theorem ok_Or_ties (T : Txt w K mg) : FnOk P w K mg base CX0 1 T.Or_ties.f T.Or_ties.fd ["self"] (sp_ties .or) := by
 refine T.Or_ties.fn.ok sc_Or_ties (fun vs H Q E h => ?_) (fun cdv A outer s H vs Q E hr h => ?_)
 ·obtain ⟨_, _, rfl, _⟩ := h
  rfl
 ·obtain ⟨c, v, rfl, hk, q⟩ := h
  obtain ⟨x, y, rfl⟩ := or_of hk
  exact ⟨_, ((pss_one (ps_ret (pe_glob rfl T.c_OR_TIES (T.r_OR_TIES))))), q⟩
theorem ok_Not_ties (T : Txt w K mg) : FnOk P w K mg base CX0 1 T.Not_ties.f T.Not_ties.fd ["self"] (sp_ties .nt) := by
 refine T.Not_ties.fn.ok sc_Not_ties (fun vs H Q E h => ?_) (fun cdv A outer s H vs Q E hr h => ?_)
 ·obtain ⟨_, _, rfl, _⟩ := h
  rfl
 ·obtain ⟨c, v, rfl, hk, q⟩ := h
  obtain ⟨x, rfl⟩ := nt_of hk
  exact ⟨_, ((pss_one (ps_ret (pe_glob rfl T.c_ALONE_TIES (T.r_ALONE_TIES))))), q⟩
theorem ok_And_parts (T : Txt w K mg) : FnOk P w K mg base CX0 1 T.And_parts.f T.And_parts.fd ["self"] (sp_parts2 T.C_And) := by
 refine T.And_parts.fn.ok sc_And_parts (fun vs H Q E h => ?_) (fun cdv A outer s H vs Q E hr h => ?_)
 ·obtain ⟨_, _, _, _, rfl, _⟩ := h
  rfl
 ·obtain ⟨p, dx, x, y, rfl, hp, q⟩ := h
  exact ⟨_, ((pss_one (ps_ret (pe_lst (pa_cons (pe_fldK (K := K) rfl (pv 0) rfl) (pa_cons (pe_fldK (K := K) rfl (pv 0) rfl) pa_nil)))))), _, rfl, p, T.C_And, dx, _, _, rfl, hp, T.l_And, T.n_And_first, tw_f .., _, rfl, p, T.C_And, dx, _, _, rfl, hp, T.l_And, T.n_And_second, tw_s .., small_line (show 2 ≤ 100000 by decide), q⟩
theorem ok_Or_parts (T : Txt w K mg) : FnOk P w K mg base CX0 1 T.Or_parts.f T.Or_parts.fd ["self"] (sp_parts2 T.C_Or) := by
 refine T.Or_parts.fn.ok sc_Or_parts (fun vs H Q E h => ?_) (fun cdv A outer s H vs Q E hr h => ?_)
 ·obtain ⟨_, _, _, _, rfl, _⟩ := h
  rfl
 ·obtain ⟨p, dx, x, y, rfl, hp, q⟩ := h
  exact ⟨_, ((pss_one (ps_ret (pe_lst (pa_cons (pe_fldK (K := K) rfl (pv 0) rfl) (pa_cons (pe_fldK (K := K) rfl (pv 0) rfl) pa_nil)))))), _, rfl, p, T.C_Or, dx, _, _, rfl, hp, T.l_Or, T.n_Or_first, tw_f .., _, rfl, p, T.C_Or, dx, _, _, rfl, hp, T.l_Or, T.n_Or_second, tw_s .., small_line (show 2 ≤ 100000 by decide), q⟩
theorem ok_Not_parts (T : Txt w K mg) : FnOk P w K mg base CX0 1 T.Not_parts.f T.Not_parts.fd ["self"] (sp_parts1 T.C_Not) := by
 refine T.Not_parts.fn.ok sc_Not_parts (fun vs H Q E h => ?_) (fun cdv A outer s H vs Q E hr h => ?_)
 ·obtain ⟨_, _, _, rfl, _⟩ := h
  rfl
 ·obtain ⟨p, dx, x, rfl, hp, q⟩ := h
  exact ⟨_, ((pss_one (ps_ret (pe_lst (pa_cons (pe_fldK (K := K) rfl (pv 0) rfl) pa_nil))))), _, rfl, p, T.C_Not, dx, _, _, rfl, hp, T.l_Not, T.n_Not_inside, on_i .., small_line (show 1 ≤ 100000 by decide), q⟩
end
theorem fn_never {P : Program} {w : World} {K : PySem.W.Frag} {mg : Str → Option Value} {base : Heap} {CX : CXT} {k : Nat} {f : Addr} {fd : FuncData} {ps : List Str} {sp : Sp} (h : ∀ vs H Q E, ¬ sp vs H Q E) : FnOk P w K mg base CX k f fd ps sp :=
 ⟨fun vs H Q E z => absurd z (h vs H Q E), fun A outer s H args us vs Q E _ _ _ _ z => absurd z (h vs H Q E)⟩
theorem no_dp {c : Cn} (h : c.dp ≤ 0) : False := by have := c.dp_pos; omega
section
variable {P : Program} {w : World} {K : PySem.W.Frag} {mg : Str → Option Value} {base : Heap}
theorem D_ties (T : Txt w K mg) : Dy P w K mg base CX0 1 "ties" ["self"] (clsOf T) sp_ties := ⟨cls_all T, fun
 | .cm => ⟨_, _, T.Compare_ties.me, ok_Compare_ties T, T.Compare_ties.bi⟩
 | .an => ⟨_, _, T.And_ties.me, ok_And_ties T, T.And_ties.bi⟩
 | .or => ⟨_, _, T.Or_ties.me, ok_Or_ties T, T.Or_ties.bi⟩
 | .nt => ⟨_, _, T.Not_ties.me, ok_Not_ties T, T.Not_ties.bi⟩⟩
theorem st_And_told (T : Txt w K mg) {d : Nat} (D_told : Dy P w K mg base CX0 (1 + d) "told" ["self"] (clsOf T) (sp_told (clsOf T) d)) : FnOk P w K mg base CX0 (1 + d + 1) T.And_told.f T.And_told.fd ["self"] (sp_told (clsOf T) (d + 1) .an) := by
 refine T.And_told.fn.ok sc_And_told (fun vs H Q E h => ?_) (fun cdv A outer s H vs Q E hr h => ?_)
 ·obtain ⟨_, _, rfl, _⟩ := h
  rfl
 ·obtain ⟨c, v, rfl, hk, hd, hC, q⟩ := h
  obtain ⟨x, y, rfl⟩ := an_of hk
  obtain ⟨p, dx, vx, vy, rfl, hp, hx, hy⟩ := hC
  simp only [Cn.dp] at hd
  refine ⟨_, ((pss_one (ps_ret (pe_tup (pa_cons pe_str (pa_cons (pe_dyn0 D_told (hr.mono (by omega)) (pe_fldK (K := K) rfl (pv 0) rfl)) (pa_cons (pe_dyn0 D_told (hr.mono (by omega)) (pe_fldK (K := K) rfl (pv 0) rfl)) pa_nil))))))), ?_⟩
  obtain ⟨a1, d1, f1, e1, e2, e3⟩ := hx.at "told" nf_told
  refine ⟨_, rfl, p, T.C_And, dx, _, _, rfl, hp, T.l_And, T.n_And_first, tw_f .., x.k, a1, d1, f1, e1, e2, e3, x, vx, rfl, rfl, by omega, hx, fun r1 H1 s1 t1 => ?_⟩
  obtain ⟨a2, d2, f2, g1, g2, g3⟩ := (hy.same s1).at "told" nf_told
  refine ⟨_, rfl, p, T.C_And, dx, _, _, rfl, s1 _ _ hp, T.l_And, T.n_And_second, tw_s .., y.k, a2, d2, f2, g1, g2, g3, y, vy, rfl, rfl, by omega, hy.same s1, fun r2 H2 s2 t2 => ?_⟩
  refine ⟨small_line (show 3 ≤ 100000 by decide), fun u hu => ?_⟩
  exact q _ _ ((s1.trans s2).trans (Same.new hu)) ⟨u, r1, r2, rfl, upd_same, t1.same (s2.trans (Same.new hu)), t2.same (Same.new hu)⟩
theorem st_Or_told (T : Txt w K mg) {d : Nat} (D_told : Dy P w K mg base CX0 (1 + d) "told" ["self"] (clsOf T) (sp_told (clsOf T) d)) : FnOk P w K mg base CX0 (1 + d + 1) T.Or_told.f T.Or_told.fd ["self"] (sp_told (clsOf T) (d + 1) .or) := by
 refine T.Or_told.fn.ok sc_Or_told (fun vs H Q E h => ?_) (fun cdv A outer s H vs Q E hr h => ?_)
 ·obtain ⟨_, _, rfl, _⟩ := h
  rfl
 ·obtain ⟨c, v, rfl, hk, hd, hC, q⟩ := h
  obtain ⟨x, y, rfl⟩ := or_of hk
  obtain ⟨p, dx, vx, vy, rfl, hp, hx, hy⟩ := hC
  simp only [Cn.dp] at hd
  refine ⟨_, ((pss_one (ps_ret (pe_tup (pa_cons pe_str (pa_cons (pe_dyn0 D_told (hr.mono (by omega)) (pe_fldK (K := K) rfl (pv 0) rfl)) (pa_cons (pe_dyn0 D_told (hr.mono (by omega)) (pe_fldK (K := K) rfl (pv 0) rfl)) pa_nil))))))), ?_⟩
  obtain ⟨a1, d1, f1, e1, e2, e3⟩ := hx.at "told" nf_told
  refine ⟨_, rfl, p, T.C_Or, dx, _, _, rfl, hp, T.l_Or, T.n_Or_first, tw_f .., x.k, a1, d1, f1, e1, e2, e3, x, vx, rfl, rfl, by omega, hx, fun r1 H1 s1 t1 => ?_⟩
  obtain ⟨a2, d2, f2, g1, g2, g3⟩ := (hy.same s1).at "told" nf_told
  refine ⟨_, rfl, p, T.C_Or, dx, _, _, rfl, s1 _ _ hp, T.l_Or, T.n_Or_second, tw_s .., y.k, a2, d2, f2, g1, g2, g3, y, vy, rfl, rfl, by omega, hy.same s1, fun r2 H2 s2 t2 => ?_⟩
  refine ⟨small_line (show 3 ≤ 100000 by decide), fun u hu => ?_⟩
  exact q _ _ ((s1.trans s2).trans (Same.new hu)) ⟨u, r1, r2, rfl, upd_same, t1.same (s2.trans (Same.new hu)), t2.same (Same.new hu)⟩
theorem st_Not_told (T : Txt w K mg) {d : Nat} (D_told : Dy P w K mg base CX0 (1 + d) "told" ["self"] (clsOf T) (sp_told (clsOf T) d)) : FnOk P w K mg base CX0 (1 + d + 1) T.Not_told.f T.Not_told.fd ["self"] (sp_told (clsOf T) (d + 1) .nt) := by
 refine T.Not_told.fn.ok sc_Not_told (fun vs H Q E h => ?_) (fun cdv A outer s H vs Q E hr h => ?_)
 ·obtain ⟨_, _, rfl, _⟩ := h
  rfl
 ·obtain ⟨c, v, rfl, hk, hd, hC, q⟩ := h
  obtain ⟨x, rfl⟩ := nt_of hk
  obtain ⟨p, dx, vx, rfl, hp, hx⟩ := hC
  simp only [Cn.dp] at hd
  refine ⟨_, ((pss_one (ps_ret (pe_tup (pa_cons pe_str (pa_cons (pe_dyn0 D_told (hr.mono (by omega)) (pe_fldK (K := K) rfl (pv 0) rfl)) pa_nil)))))), ?_⟩
  obtain ⟨a1, d1, f1, e1, e2, e3⟩ := hx.at "told" nf_told
  refine ⟨_, rfl, p, T.C_Not, dx, _, _, rfl, hp, T.l_Not, T.n_Not_inside, on_i .., x.k, a1, d1, f1, e1, e2, e3, x, vx, rfl, rfl, by omega, hx, fun r1 H1 s1 t1 => ?_⟩
  refine ⟨small_line (show 2 ≤ 100000 by decide), fun u hu => ?_⟩
  exact q _ _ (s1.trans (Same.new hu)) ⟨u, r1, rfl, upd_same, t1.same (Same.new hu)⟩
theorem D_told (T : Txt w K mg) : ∀ d, Dy P w K mg base CX0 (1 + d) "told" ["self"] (clsOf T) (sp_told (clsOf T) d)
 | 0 => ⟨cls_all T, fun
  | .cm => ⟨_, _, T.Compare_told.me, ok_Compare_told T 0, T.Compare_told.bi⟩
  | .an => ⟨_, _, T.And_told.me, fn_never fun _ _ _ _ ⟨_, _, _, _, h, _⟩ => no_dp h, T.And_told.bi⟩
  | .or => ⟨_, _, T.Or_told.me, fn_never fun _ _ _ _ ⟨_, _, _, _, h, _⟩ => no_dp h, T.Or_told.bi⟩
  | .nt => ⟨_, _, T.Not_told.me, fn_never fun _ _ _ _ ⟨_, _, _, _, h, _⟩ => no_dp h, T.Not_told.bi⟩⟩
 | d + 1 => ⟨cls_all T, fun
  | .cm => ⟨_, _, T.Compare_told.me, (ok_Compare_told T (d + 1)).mono (by omega), T.Compare_told.bi⟩
  | .an => ⟨_, _, T.And_told.me, st_And_told T (D_told T d), T.And_told.bi⟩
  | .or => ⟨_, _, T.Or_told.me, st_Or_told T (D_told T d), T.Or_told.bi⟩
  | .nt => ⟨_, _, T.Not_told.me, st_Not_told T (D_told T d), T.Not_told.bi⟩⟩
theorem st_And_holds (T : Txt w K mg) {d : Nat} (D_holds : Dy P w K mg base CX0 (2 + d) "holds" ["self", "values"] (clsOf T) (sp_holds (clsOf T) d)) : FnOk P w K mg base CX0 (2 + d + 1) T.And_holds.f T.And_holds.fd ["self", "values"] (sp_holds (clsOf T) (d + 1) .an) := by
 refine T.And_holds.fn.ok sc_And_holds (fun vs H Q E h => ?_) (fun cdv A outer s H vs Q E hr h => ?_)
 ·obtain ⟨_, _, _, _, rfl, _⟩ := h
  rfl
 ·obtain ⟨c, v, a, ρ, rfl, hk, hd, hC, ha, hf, q⟩ := h
  obtain ⟨x, y, rfl⟩ := an_of hk
  obtain ⟨p, dx, vx, vy, rfl, hp, hx, hy⟩ := hC
  simp only [Cn.dp] at hd
  obtain ⟨hf1, hf2⟩ := hf
  simp only [Cn.hold] at q
  refine ⟨_, ((pss_one (ps_ret (pe_and (pe_dyn D_holds (hr.mono (by omega)) (pe_fldK (K := K) rfl (pv 0) rfl) (pa_cons (pv 1) pa_nil)) (pe_one (pe_dyn D_holds (hr.mono (by omega)) (pe_fldK (K := K) rfl (pv 0) rfl) (pa_cons (pv 1) pa_nil))))))), ?_⟩
  obtain ⟨a1, d1, f1, e1, e2, e3⟩ := hx.at "holds" nf_holds
  refine ⟨_, rfl, p, T.C_And, dx, _, _, rfl, hp, T.l_And, T.n_And_first, tw_f .., x.k, a1, d1, f1, e1, e2, e3, _, rfl, x, vx, a, ρ, rfl, rfl, by omega, hx, ha, hf1, _, rfl, ?_⟩
  refine ite2 (fun z => ?_) (fun z => ?_)
  ·rw [z, Bool.true_and] at q
   obtain ⟨a2, d2, f2, g1, g2, g3⟩ := hy.at "holds" nf_holds
   exact ⟨_, rfl, p, T.C_And, dx, _, _, rfl, hp, T.l_And, T.n_And_second, tw_s .., y.k, a2, d2, f2, g1, g2, g3, _, rfl, y, vy, a, ρ, rfl, rfl, by omega, hy, ha, hf2, q⟩
  ·have z : x.hold ρ = false := by simpa using z
   rw [z, Bool.false_and] at q
   exact q
theorem st_Or_holds (T : Txt w K mg) {d : Nat} (D_holds : Dy P w K mg base CX0 (2 + d) "holds" ["self", "values"] (clsOf T) (sp_holds (clsOf T) d)) : FnOk P w K mg base CX0 (2 + d + 1) T.Or_holds.f T.Or_holds.fd ["self", "values"] (sp_holds (clsOf T) (d + 1) .or) := by
 refine T.Or_holds.fn.ok sc_Or_holds (fun vs H Q E h => ?_) (fun cdv A outer s H vs Q E hr h => ?_)
 ·obtain ⟨_, _, _, _, rfl, _⟩ := h
  rfl
 ·obtain ⟨c, v, a, ρ, rfl, hk, hd, hC, ha, hf, q⟩ := h
  obtain ⟨x, y, rfl⟩ := or_of hk
  obtain ⟨p, dx, vx, vy, rfl, hp, hx, hy⟩ := hC
  simp only [Cn.dp] at hd
  obtain ⟨hf1, hf2⟩ := hf
  simp only [Cn.hold] at q
  refine ⟨_, ((pss_one (ps_ret (pe_or (pe_dyn D_holds (hr.mono (by omega)) (pe_fldK (K := K) rfl (pv 0) rfl) (pa_cons (pv 1) pa_nil)) (pe_one (pe_dyn D_holds (hr.mono (by omega)) (pe_fldK (K := K) rfl (pv 0) rfl) (pa_cons (pv 1) pa_nil))))))), ?_⟩
  obtain ⟨a1, d1, f1, e1, e2, e3⟩ := hx.at "holds" nf_holds
  refine ⟨_, rfl, p, T.C_Or, dx, _, _, rfl, hp, T.l_Or, T.n_Or_first, tw_f .., x.k, a1, d1, f1, e1, e2, e3, _, rfl, x, vx, a, ρ, rfl, rfl, by omega, hx, ha, hf1, _, rfl, ?_⟩
  refine ite2 (fun z => ?_) (fun z => ?_)
  ·rw [z, Bool.true_or] at q
   exact q
  ·have z : x.hold ρ = false := by simpa using z
   rw [z, Bool.false_or] at q
   obtain ⟨a2, d2, f2, g1, g2, g3⟩ := hy.at "holds" nf_holds
   exact ⟨_, rfl, p, T.C_Or, dx, _, _, rfl, hp, T.l_Or, T.n_Or_second, tw_s .., y.k, a2, d2, f2, g1, g2, g3, _, rfl, y, vy, a, ρ, rfl, rfl, by omega, hy, ha, hf2, q⟩
theorem st_Not_holds (T : Txt w K mg) {d : Nat} (D_holds : Dy P w K mg base CX0 (2 + d) "holds" ["self", "values"] (clsOf T) (sp_holds (clsOf T) d)) : FnOk P w K mg base CX0 (2 + d + 1) T.Not_holds.f T.Not_holds.fd ["self", "values"] (sp_holds (clsOf T) (d + 1) .nt) := by
 refine T.Not_holds.fn.ok sc_Not_holds (fun vs H Q E h => ?_) (fun cdv A outer s H vs Q E hr h => ?_)
 ·obtain ⟨_, _, _, _, rfl, _⟩ := h
  rfl
 ·obtain ⟨c, v, a, ρ, rfl, hk, hd, hC, ha, hf, q⟩ := h
  obtain ⟨x, rfl⟩ := nt_of hk
  obtain ⟨p, dx, vx, rfl, hp, hx⟩ := hC
  simp only [Cn.dp] at hd
  refine ⟨_, ((pss_one (ps_ret (pe_not (pe_dyn D_holds (hr.mono (by omega)) (pe_fldK (K := K) rfl (pv 0) rfl) (pa_cons (pv 1) pa_nil)))))), ?_⟩
  obtain ⟨a1, d1, f1, e1, e2, e3⟩ := hx.at "holds" nf_holds
  exact ⟨_, rfl, p, T.C_Not, dx, _, _, rfl, hp, T.l_Not, T.n_Not_inside, on_i .., x.k, a1, d1, f1, e1, e2, e3, _, rfl, x, vx, a, ρ, rfl, rfl, by omega, hx, ha, hf, _, rfl, q⟩
theorem D_holds (T : Txt w K mg) : ∀ d, Dy P w K mg base CX0 (2 + d) "holds" ["self", "values"] (clsOf T) (sp_holds (clsOf T) d)
 | 0 => ⟨cls_all T, fun
  | .cm => ⟨_, _, T.Compare_holds.me, ok_Compare_holds T 0, T.Compare_holds.bi⟩
  | .an => ⟨_, _, T.And_holds.me, fn_never fun _ _ _ _ ⟨_, _, _, _, _, _, h, _⟩ => no_dp h, T.And_holds.bi⟩
  | .or => ⟨_, _, T.Or_holds.me, fn_never fun _ _ _ _ ⟨_, _, _, _, _, _, h, _⟩ => no_dp h, T.Or_holds.bi⟩
  | .nt => ⟨_, _, T.Not_holds.me, fn_never fun _ _ _ _ ⟨_, _, _, _, _, _, h, _⟩ => no_dp h, T.Not_holds.bi⟩⟩
 | d + 1 => ⟨cls_all T, fun
  | .cm => ⟨_, _, T.Compare_holds.me, (ok_Compare_holds T (d + 1)).mono (by omega), T.Compare_holds.bi⟩
  | .an => ⟨_, _, T.And_holds.me, st_And_holds T (D_holds T d), T.And_holds.bi⟩
  | .or => ⟨_, _, T.Or_holds.me, st_Or_holds T (D_holds T d), T.Or_holds.bi⟩
  | .nt => ⟨_, _, T.Not_holds.me, st_Not_holds T (D_holds T d), T.Not_holds.bi⟩⟩
structure DCO (P : Program) (w : World) (K : PySem.W.Frag) (mg : Str → Option Value) (base : Heap) (T : Txt w K mg) (d : Nat) : Prop where
 c : Dy P w K mg base CX0 (3 + d) "cleared" ["self"] (clsOf T) (sp_clear (clsOf T) d)
 o : Dy P w K mg base CX0 (3 + d) "opposite" ["self"] (clsOf T) (sp_oppo (clsOf T) d)
theorem st_And_cleared (T : Txt w K mg) {d : Nat} (I : DCO P w K mg base T d) : FnOk P w K mg base CX0 (3 + d + 1) T.And_cleared.f T.And_cleared.fd ["self"] (sp_clear (clsOf T) (d + 1) .an) := by
 have D_cleared := I.c
 have G_And___init__ : FnOk P w K mg base CX0 1 T.And___init__.f T.And___init__.fd _ _ := ok_And___init__ T
 refine T.And_cleared.fn.ok sc_And_cleared (fun vs H Q E h => ?_) (fun cdv A outer s H vs Q E hr h => ?_)
 ·obtain ⟨_, _, rfl, _⟩ := h
  rfl
 ·obtain ⟨c, v, rfl, hk, hd, hC, ok, q⟩ := h
  obtain ⟨x, y, rfl⟩ := an_of hk
  obtain ⟨p, dx, vx, vy, rfl, hp, hx, hy⟩ := hC
  simp only [Cn.dp] at hd
  refine ⟨_, ((pss_one (ps_ret (pe_make T.k_And G_And___init__ (hr.mono (by omega)) rfl T.c_And T.And___init__.bi .nil pass0 (pa_cons (pe_dyn0 D_cleared (hr.mono (by omega)) (pe_fldK (K := K) rfl (pv 0) rfl)) (pa_cons (pe_dyn0 D_cleared (hr.mono (by omega)) (pe_fldK (K := K) rfl (pv 0) rfl)) pa_nil)))))), ?_⟩
  obtain ⟨a1, d1, f1, e1, e2, e3⟩ := hx.at "cleared" nf_cleared
  refine ⟨_, rfl, p, T.C_And, dx, _, _, rfl, hp, T.l_And, T.n_And_first, tw_f .., x.k, a1, d1, f1, e1, e2, e3, x, vx, rfl, rfl, by omega, hx, ok.1, fun r1 H1 s1 t1 => ?_⟩
  obtain ⟨a2, d2, f2, g1, g2, g3⟩ := (hy.same s1).at "cleared" nf_cleared
  refine ⟨_, rfl, p, T.C_And, dx, _, _, rfl, s1 _ _ hp, T.l_And, T.n_And_second, tw_s .., y.k, a2, d2, f2, g1, g2, g3, y, vy, rfl, rfl, by omega, hy.same s1, ok.2, fun r2 H2 s2 t2 => ?_⟩
  refine fun u du hu hd ne => ⟨u, du, [r1, r2], rfl, rfl, upd_same, rfl, ?_⟩
  obtain ⟨s3, e3⟩ := new_step (C := T.C_And) (fs := twoF r1 r2) hu hd ne
  exact q _ _ ((s1.trans s2).trans s3) ⟨u, du, r1, r2, rfl, e3, t1.same (s2.trans s3), t2.same s3⟩
theorem st_Or_cleared (T : Txt w K mg) {d : Nat} (I : DCO P w K mg base T d) : FnOk P w K mg base CX0 (3 + d + 1) T.Or_cleared.f T.Or_cleared.fd ["self"] (sp_clear (clsOf T) (d + 1) .or) := by
 have D_cleared := I.c
 have G_Or___init__ : FnOk P w K mg base CX0 1 T.Or___init__.f T.Or___init__.fd _ _ := ok_Or___init__ T
 refine T.Or_cleared.fn.ok sc_Or_cleared (fun vs H Q E h => ?_) (fun cdv A outer s H vs Q E hr h => ?_)
 ·obtain ⟨_, _, rfl, _⟩ := h
  rfl
 ·obtain ⟨c, v, rfl, hk, hd, hC, ok, q⟩ := h
  obtain ⟨x, y, rfl⟩ := or_of hk
  obtain ⟨p, dx, vx, vy, rfl, hp, hx, hy⟩ := hC
  simp only [Cn.dp] at hd
  refine ⟨_, ((pss_one (ps_ret (pe_make T.k_Or G_Or___init__ (hr.mono (by omega)) rfl T.c_Or T.Or___init__.bi .nil pass0 (pa_cons (pe_dyn0 D_cleared (hr.mono (by omega)) (pe_fldK (K := K) rfl (pv 0) rfl)) (pa_cons (pe_dyn0 D_cleared (hr.mono (by omega)) (pe_fldK (K := K) rfl (pv 0) rfl)) pa_nil)))))), ?_⟩
  obtain ⟨a1, d1, f1, e1, e2, e3⟩ := hx.at "cleared" nf_cleared
  refine ⟨_, rfl, p, T.C_Or, dx, _, _, rfl, hp, T.l_Or, T.n_Or_first, tw_f .., x.k, a1, d1, f1, e1, e2, e3, x, vx, rfl, rfl, by omega, hx, ok.1, fun r1 H1 s1 t1 => ?_⟩
  obtain ⟨a2, d2, f2, g1, g2, g3⟩ := (hy.same s1).at "cleared" nf_cleared
  refine ⟨_, rfl, p, T.C_Or, dx, _, _, rfl, s1 _ _ hp, T.l_Or, T.n_Or_second, tw_s .., y.k, a2, d2, f2, g1, g2, g3, y, vy, rfl, rfl, by omega, hy.same s1, ok.2, fun r2 H2 s2 t2 => ?_⟩
  refine fun u du hu hd ne => ⟨u, du, [r1, r2], rfl, rfl, upd_same, rfl, ?_⟩
  obtain ⟨s3, e3⟩ := new_step (C := T.C_Or) (fs := twoF r1 r2) hu hd ne
  exact q _ _ ((s1.trans s2).trans s3) ⟨u, du, r1, r2, rfl, e3, t1.same (s2.trans s3), t2.same s3⟩
theorem st_Not_cleared (T : Txt w K mg) {d : Nat} (I : DCO P w K mg base T d) : FnOk P w K mg base CX0 (3 + d + 1) T.Not_cleared.f T.Not_cleared.fd ["self"] (sp_clear (clsOf T) (d + 1) .nt) := by
 have D_opposite := I.o
 refine T.Not_cleared.fn.ok sc_Not_cleared (fun vs H Q E h => ?_) (fun cdv A outer s H vs Q E hr h => ?_)
 ·obtain ⟨_, _, rfl, _⟩ := h
  rfl
 ·obtain ⟨c, v, rfl, hk, hd, hC, ok, q⟩ := h
  obtain ⟨x, rfl⟩ := nt_of hk
  obtain ⟨p, dx, vx, rfl, hp, hx⟩ := hC
  simp only [Cn.dp] at hd
  refine ⟨_, ((pss_one (ps_ret (pe_dyn0 D_opposite (hr.mono (by omega)) (pe_fldK (K := K) rfl (pv 0) rfl))))), ?_⟩
  obtain ⟨a1, d1, f1, e1, e2, e3⟩ := hx.at "opposite" nf_opposite
  exact ⟨_, rfl, p, T.C_Not, dx, _, _, rfl, hp, T.l_Not, T.n_Not_inside, on_i .., x.k, a1, d1, f1, e1, e2, e3, x, vx, rfl, rfl, by omega, hx, ok, fun r1 H1 s1 t1 => q _ _ s1 t1⟩
theorem st_And_opposite (T : Txt w K mg) {d : Nat} (I : DCO P w K mg base T d) : FnOk P w K mg base CX0 (3 + d + 1) T.And_opposite.f T.And_opposite.fd ["self"] (sp_oppo (clsOf T) (d + 1) .an) := by
 have D_opposite := I.o
 have G_Or___init__ : FnOk P w K mg base CX0 1 T.Or___init__.f T.Or___init__.fd _ _ := ok_Or___init__ T
 refine T.And_opposite.fn.ok sc_And_opposite (fun vs H Q E h => ?_) (fun cdv A outer s H vs Q E hr h => ?_)
 ·obtain ⟨_, _, rfl, _⟩ := h
  rfl
 ·obtain ⟨c, v, rfl, hk, hd, hC, ok, q⟩ := h
  obtain ⟨x, y, rfl⟩ := an_of hk
  obtain ⟨p, dx, vx, vy, rfl, hp, hx, hy⟩ := hC
  simp only [Cn.dp] at hd
  refine ⟨_, ((pss_one (ps_ret (pe_make T.k_Or G_Or___init__ (hr.mono (by omega)) rfl T.c_Or T.Or___init__.bi .nil pass0 (pa_cons (pe_dyn0 D_opposite (hr.mono (by omega)) (pe_fldK (K := K) rfl (pv 0) rfl)) (pa_cons (pe_dyn0 D_opposite (hr.mono (by omega)) (pe_fldK (K := K) rfl (pv 0) rfl)) pa_nil)))))), ?_⟩
  obtain ⟨a1, d1, f1, e1, e2, e3⟩ := hx.at "opposite" nf_opposite
  refine ⟨_, rfl, p, T.C_And, dx, _, _, rfl, hp, T.l_And, T.n_And_first, tw_f .., x.k, a1, d1, f1, e1, e2, e3, x, vx, rfl, rfl, by omega, hx, ok.1, fun r1 H1 s1 t1 => ?_⟩
  obtain ⟨a2, d2, f2, g1, g2, g3⟩ := (hy.same s1).at "opposite" nf_opposite
  refine ⟨_, rfl, p, T.C_And, dx, _, _, rfl, s1 _ _ hp, T.l_And, T.n_And_second, tw_s .., y.k, a2, d2, f2, g1, g2, g3, y, vy, rfl, rfl, by omega, hy.same s1, ok.2, fun r2 H2 s2 t2 => ?_⟩
  refine fun u du hu hd ne => ⟨u, du, [r1, r2], rfl, rfl, upd_same, rfl, ?_⟩
  obtain ⟨s3, e3⟩ := new_step (C := T.C_Or) (fs := twoF r1 r2) hu hd ne
  exact q _ _ ((s1.trans s2).trans s3) ⟨u, du, r1, r2, rfl, e3, t1.same (s2.trans s3), t2.same s3⟩
theorem st_Or_opposite (T : Txt w K mg) {d : Nat} (I : DCO P w K mg base T d) : FnOk P w K mg base CX0 (3 + d + 1) T.Or_opposite.f T.Or_opposite.fd ["self"] (sp_oppo (clsOf T) (d + 1) .or) := by
 have D_opposite := I.o
 have G_And___init__ : FnOk P w K mg base CX0 1 T.And___init__.f T.And___init__.fd _ _ := ok_And___init__ T
 refine T.Or_opposite.fn.ok sc_Or_opposite (fun vs H Q E h => ?_) (fun cdv A outer s H vs Q E hr h => ?_)
 ·obtain ⟨_, _, rfl, _⟩ := h
  rfl
 ·obtain ⟨c, v, rfl, hk, hd, hC, ok, q⟩ := h
  obtain ⟨x, y, rfl⟩ := or_of hk
  obtain ⟨p, dx, vx, vy, rfl, hp, hx, hy⟩ := hC
  simp only [Cn.dp] at hd
  refine ⟨_, ((pss_one (ps_ret (pe_make T.k_And G_And___init__ (hr.mono (by omega)) rfl T.c_And T.And___init__.bi .nil pass0 (pa_cons (pe_dyn0 D_opposite (hr.mono (by omega)) (pe_fldK (K := K) rfl (pv 0) rfl)) (pa_cons (pe_dyn0 D_opposite (hr.mono (by omega)) (pe_fldK (K := K) rfl (pv 0) rfl)) pa_nil)))))), ?_⟩
  obtain ⟨a1, d1, f1, e1, e2, e3⟩ := hx.at "opposite" nf_opposite
  refine ⟨_, rfl, p, T.C_Or, dx, _, _, rfl, hp, T.l_Or, T.n_Or_first, tw_f .., x.k, a1, d1, f1, e1, e2, e3, x, vx, rfl, rfl, by omega, hx, ok.1, fun r1 H1 s1 t1 => ?_⟩
  obtain ⟨a2, d2, f2, g1, g2, g3⟩ := (hy.same s1).at "opposite" nf_opposite
  refine ⟨_, rfl, p, T.C_Or, dx, _, _, rfl, s1 _ _ hp, T.l_Or, T.n_Or_second, tw_s .., y.k, a2, d2, f2, g1, g2, g3, y, vy, rfl, rfl, by omega, hy.same s1, ok.2, fun r2 H2 s2 t2 => ?_⟩
  refine fun u du hu hd ne => ⟨u, du, [r1, r2], rfl, rfl, upd_same, rfl, ?_⟩
  obtain ⟨s3, e3⟩ := new_step (C := T.C_And) (fs := twoF r1 r2) hu hd ne
  exact q _ _ ((s1.trans s2).trans s3) ⟨u, du, r1, r2, rfl, e3, t1.same (s2.trans s3), t2.same s3⟩
theorem st_Not_opposite (T : Txt w K mg) {d : Nat} (I : DCO P w K mg base T d) : FnOk P w K mg base CX0 (3 + d + 1) T.Not_opposite.f T.Not_opposite.fd ["self"] (sp_oppo (clsOf T) (d + 1) .nt) := by
 have D_cleared := I.c
 refine T.Not_opposite.fn.ok sc_Not_opposite (fun vs H Q E h => ?_) (fun cdv A outer s H vs Q E hr h => ?_)
 ·obtain ⟨_, _, rfl, _⟩ := h
  rfl
 ·obtain ⟨c, v, rfl, hk, hd, hC, ok, q⟩ := h
  obtain ⟨x, rfl⟩ := nt_of hk
  obtain ⟨p, dx, vx, rfl, hp, hx⟩ := hC
  simp only [Cn.dp] at hd
  refine ⟨_, ((pss_one (ps_ret (pe_dyn0 D_cleared (hr.mono (by omega)) (pe_fldK (K := K) rfl (pv 0) rfl))))), ?_⟩
  obtain ⟨a1, d1, f1, e1, e2, e3⟩ := hx.at "cleared" nf_cleared
  exact ⟨_, rfl, p, T.C_Not, dx, _, _, rfl, hp, T.l_Not, T.n_Not_inside, on_i .., x.k, a1, d1, f1, e1, e2, e3, x, vx, rfl, rfl, by omega, hx, ok, fun r1 H1 s1 t1 => q _ _ s1 t1⟩
theorem D_CO (T : Txt w K mg) : ∀ d, DCO P w K mg base T d
 | 0 => ⟨⟨cls_all T, fun
   | .cm => ⟨_, _, T.Compare_cleared.me, (ok_Compare_cleared T 0).mono (by omega), T.Compare_cleared.bi⟩
   | .an => ⟨_, _, T.And_cleared.me, fn_never fun _ _ _ _ ⟨_, _, _, _, h, _⟩ => no_dp h, T.And_cleared.bi⟩
   | .or => ⟨_, _, T.Or_cleared.me, fn_never fun _ _ _ _ ⟨_, _, _, _, h, _⟩ => no_dp h, T.Or_cleared.bi⟩
   | .nt => ⟨_, _, T.Not_cleared.me, fn_never fun _ _ _ _ ⟨_, _, _, _, h, _⟩ => no_dp h, T.Not_cleared.bi⟩⟩,
  ⟨cls_all T, fun
   | .cm => ⟨_, _, T.Compare_opposite.me, ok_Compare_opposite T 0, T.Compare_opposite.bi⟩
   | .an => ⟨_, _, T.And_opposite.me, fn_never fun _ _ _ _ ⟨_, _, _, _, h, _⟩ => no_dp h, T.And_opposite.bi⟩
   | .or => ⟨_, _, T.Or_opposite.me, fn_never fun _ _ _ _ ⟨_, _, _, _, h, _⟩ => no_dp h, T.Or_opposite.bi⟩
   | .nt => ⟨_, _, T.Not_opposite.me, fn_never fun _ _ _ _ ⟨_, _, _, _, h, _⟩ => no_dp h, T.Not_opposite.bi⟩⟩⟩
 | d + 1 => ⟨⟨cls_all T, fun
   | .cm => ⟨_, _, T.Compare_cleared.me, (ok_Compare_cleared T (d + 1)).mono (by omega), T.Compare_cleared.bi⟩
   | .an => ⟨_, _, T.And_cleared.me, st_And_cleared T (D_CO T d), T.And_cleared.bi⟩
   | .or => ⟨_, _, T.Or_cleared.me, st_Or_cleared T (D_CO T d), T.Or_cleared.bi⟩
   | .nt => ⟨_, _, T.Not_cleared.me, st_Not_cleared T (D_CO T d), T.Not_cleared.bi⟩⟩,
  ⟨cls_all T, fun
   | .cm => ⟨_, _, T.Compare_opposite.me, (ok_Compare_opposite T (d + 1)).mono (by omega), T.Compare_opposite.bi⟩
   | .an => ⟨_, _, T.And_opposite.me, st_And_opposite T (D_CO T d), T.And_opposite.bi⟩
   | .or => ⟨_, _, T.Or_opposite.me, st_Or_opposite T (D_CO T d), T.Or_opposite.bi⟩
   | .nt => ⟨_, _, T.Not_opposite.me, st_Not_opposite T (D_CO T d), T.Not_opposite.bi⟩⟩⟩
end
theorem app_len (x y : Str) : (x ++ y).length = x.length + y.length := by
 show (x.cps ++ y.cps).size = _
 rw [Array.size_append]
 rfl
theorem app_assoc (x y z : Str) : x ++ y ++ z = x ++ (y ++ z) := by
 show Str.mk (x.cps ++ y.cps ++ z.cps) = Str.mk (x.cps ++ (y.cps ++ z.cps))
 rw [Array.append_assoc]
theorem tj (z : Str) (ys : List Str) : Txt.join z ys = Str.join z ys := StrLaws.glued_eq_join z ys
theorem join3 (z a b c : Str) : Txt.join z [a, b, c] = a ++ z ++ (b ++ z ++ c) := by rw [tj]; rfl
theorem len_sp : (" " : Str).length = 1 := by decide +kernel
theorem len_and : (" and " : Str).length = 5 := by decide +kernel
theorem len_or : (" or " : Str).length = 4 := by decide +kernel
theorem len_not : ("not " : Str).length = 4 := by decide +kernel
theorem len_b1 : ("( " : Str).length = 2 := by decide +kernel
theorem len_b2 : (" )" : Str).length = 2 := by decide +kernel
theorem inBr_len (x : Str) : (inBr x).length = x.length + 4 := by
 unfold inBr
 rw [app_len, app_len, len_b1, len_b2]
 omega
theorem two_pow (n : Nat) (a b : Nat) (ha : a ≤ n) (hb : b ≤ n) : 70 * 2 ^ a + 70 * 2 ^ b ≤ 70 * 2 ^ (n + 1) := by
 have h1 := Nat.pow_le_pow_right (n := 2) (by decide) ha
 have h2 := Nat.pow_le_pow_right (n := 2) (by decide) hb
 rw [Nat.pow_succ]
 omega
theorem ite_len {c : Prop} [Decidable c] {x : Str} {n : Nat} (h : x.length + 4 ≤ n) : (if c then x else inBr x).length ≤ n := by
 split
 ·omega
 ·rw [inBr_len]; omega
theorem txt_len : ∀ {c : Cn}, c.ok → c.txt.length + 20 ≤ 70 * 2 ^ c.dp
 | .cmp l s r, ok => by
  have h1 := ok.1
  have h2 := sg_len ok.2.1
  have h3 := at_len ok.2.2
  simp only [Cn.txt, Cn.dp, join3, app_len, len_sp]
  omega
 | .an a b, ok => by
  have h1 := txt_len ok.1
  have h2 := txt_len ok.2
  have h3 := two_pow (max a.dp b.dp) a.dp b.dp (by omega) (by omega)
  simp only [Cn.txt, Cn.dp, app_len, len_and]
  have g1 := ite_len (c := tyT a ≥ 2) (x := a.txt) (n := 70 * 2 ^ a.dp - 16) (by omega)
  have g2 := ite_len (c := tyT b ≥ 3) (x := b.txt) (n := 70 * 2 ^ b.dp - 16) (by omega)
  omega
 | .or a b, ok => by
  have h1 := txt_len ok.1
  have h2 := txt_len ok.2
  have h3 := two_pow (max a.dp b.dp) a.dp b.dp (by omega) (by omega)
  simp only [Cn.txt, Cn.dp, app_len, len_or]
  have g1 := ite_len (c := tyT a ≥ 1) (x := a.txt) (n := 70 * 2 ^ a.dp - 16) (by omega)
  have g2 := ite_len (c := tyT b ≥ 2) (x := b.txt) (n := 70 * 2 ^ b.dp - 16) (by omega)
  omega
 | .nt a, ok => by
  have h1 := txt_len (c := a) ok
  simp only [Cn.txt, Cn.dp, app_len, len_not]
  have g1 := ite_len (c := tyT a ≥ 3) (x := a.txt) (n := 70 * 2 ^ a.dp - 16) (by omega)
  have h0 : 1 ≤ 2 ^ a.dp := Nat.one_le_two_pow
  rw [Nat.pow_succ]
  omega
theorem txt_small {c : Cn} (ok : c.ok) (h : c.dp ≤ 8) : c.txt.length ≤ 20000 := by
 have h1 := txt_len ok
 have h2 := Nat.pow_le_pow_right (n := 2) (by decide) h
 omega
theorem within_small {c : Cn} {n : Int} (ok : c.ok) (h : c.dp ≤ 8) : (within c n).length ≤ 20010 := by
 unfold within
 have := txt_small ok h
 split
 ·omega
 ·rw [inBr_len]; omega
def sp_within (C : KC → Addr) (d : Nat) : Sp := fun vs H Q _ => ∃ (c : Cn) (v : V) (n : Int), vs = [v, .int n] ∧ c.dp ≤ d ∧ CO C H c v ∧ c.ok ∧ c.dp ≤ 8 ∧ ∀ H', Same H H' → Q (.str (within c n)) H'
theorem names_len : ∀ c : Cn, c.names.length ≤ 2 ^ c.dp
 | .cmp l s r => by cases r <;> simp [Cn.names, At.names, Cn.dp]
 | .an a b => by
  have h1 := names_len a
  have h2 := names_len b
  have h3 := Nat.pow_le_pow_right (n := 2) (by decide) (show a.dp ≤ max a.dp b.dp by omega)
  have h4 := Nat.pow_le_pow_right (n := 2) (by decide) (show b.dp ≤ max a.dp b.dp by omega)
  simp only [Cn.names, Cn.dp, List.length_append, Nat.pow_succ]
  omega
 | .or a b => by
  have h1 := names_len a
  have h2 := names_len b
  have h3 := Nat.pow_le_pow_right (n := 2) (by decide) (show a.dp ≤ max a.dp b.dp by omega)
  have h4 := Nat.pow_le_pow_right (n := 2) (by decide) (show b.dp ≤ max a.dp b.dp by omega)
  simp only [Cn.names, Cn.dp, List.length_append, Nat.pow_succ]
  omega
 | .nt a => by
  have h1 := names_len a
  simp only [Cn.names, Cn.dp, Nat.pow_succ]
  omega
theorem names_small {c : Cn} (h : c.dp ≤ 8) : c.names.length ≤ 256 := Nat.le_trans (names_len c) (Nat.pow_le_pow_right (n := 2) (by decide) h)
section
variable {P : Program} {w : World} {K : PySem.W.Frag} {mg : Str → Option Value} {base : Heap}
theorem st_within (T : Txt w K mg) {d : Nat} (D_text : Dy P w K mg base CX0 (3 + 2 * d) "text" ["self"] (clsOf T) (sp_text (clsOf T) d)) : FnOk P w K mg base CX0 (3 + 2 * d + 1) T.text_within.f T.text_within.fd ["cond", "least"] (sp_within (clsOf T) d) := by
 have D_ties : Dy P w K mg base CX0 1 "ties" ["self"] (clsOf T) sp_ties := D_ties T
 refine T.text_within.fn.ok sc_text_within (fun vs H Q E h => ?_) (fun cdv A outer s H vs Q E hr h => ?_)
 ·obtain ⟨_, _, _, rfl, _⟩ := h
  rfl
 ·obtain ⟨c, v, n, rfl, hd, hC, ok, h8, q⟩ := h
  refine ⟨_, ((pss_one (ps_ret (pe_ifExp (pt_cmpR op_ge (pe_dyn0 D_ties (hr.mono (by omega)) (pv 0)) (pv 1) (nomark _)) (pe_dyn0 D_text (hr.mono (by omega)) (pv 0)) (pe_op op_add_str (pe_op op_add_str pe_str (pe_dyn0 D_text (hr.mono (by omega)) (pv 0))) pe_str))))), ?_⟩
  have sm := txt_small ok h8
  obtain ⟨a1, d1, f1, e1, e2, e3⟩ := hC.at "ties" nf_ties
  obtain ⟨a2, d2, f2, g1, g2, g3⟩ := hC.at "text" nf_text
  refine ⟨_, rfl, c.k, a1, d1, f1, e1, e2, e3, c, v, rfl, rfl, _, rfl, _, _, rfl, rfl, _, rfl, ?_⟩
  refine ite2 (fun z => ?_) (fun z => ?_)
  ·refine ⟨_, rfl, c.k, a2, d2, f2, g1, g2, g3, c, v, rfl, rfl, hd, hC, ok, h8, fun H' s' => ?_⟩
   have e : within c n = c.txt := if_pos (of_decide_eq_true z)
   rw [← e]
   exact q _ s'
  ·refine ⟨_, rfl, c.k, a2, d2, f2, g1, g2, g3, c, v, rfl, rfl, hd, hC, ok, h8, fun H' s' => ?_⟩
   have e : within c n = inBr c.txt := if_neg (of_decide_eq_false (by simpa using z))
   refine ⟨_, _, rfl, rfl, small_line (by rw [len_b1]; omega), _, _, rfl, rfl, small_line (by rw [app_len, len_b1, len_b2]; omega), ?_⟩
   show Q (.str (inBr c.txt)) H'
   rw [← e]
   exact q _ s'
theorem st_And_text (T : Txt w K mg) {d : Nat} (G_text_within : FnOk P w K mg base CX0 (3 + 2 * d + 1) T.text_within.f T.text_within.fd ["cond", "least"] (sp_within (clsOf T) d)) : FnOk P w K mg base CX0 (3 + 2 * d + 1 + 1) T.And_text.f T.And_text.fd ["self"] (sp_text (clsOf T) (d + 1) .an) := by
 refine T.And_text.fn.ok sc_And_text (fun vs H Q E h => ?_) (fun cdv A outer s H vs Q E hr h => ?_)
 ·obtain ⟨_, _, rfl, _⟩ := h
  rfl
 ·obtain ⟨c, v, rfl, hk, hd, hC, ok, h8, q⟩ := h
  obtain ⟨x, y, rfl⟩ := an_of hk
  obtain ⟨p, dx, vx, vy, rfl, hp, hx, hy⟩ := hC
  simp only [Cn.dp] at hd h8
  refine ⟨_, ((pss_one (ps_ret (pe_op op_add_str (pe_op op_add_str (pe_own G_text_within (hr.mono (by omega)) rfl (pa_cons (pe_fldK (K := K) rfl (pv 0) rfl) (pa_cons (pe_glob rfl T.c_AND_TIES (T.r_AND_TIES)) pa_nil))) pe_str) (pe_own G_text_within (hr.mono (by omega)) rfl (pa_cons (pe_fldK (K := K) rfl (pv 0) rfl) (pa_cons (pe_glob rfl T.c_ALONE_TIES (T.r_ALONE_TIES)) pa_nil))))))), ?_⟩
  refine ⟨_, rfl, p, T.C_And, dx, _, _, rfl, hp, T.l_And, T.n_And_first, tw_f .., x, vx, _, rfl, by omega, hx, ok.1, by omega, fun H1 s1 => ?_⟩
  have w1 := within_small (c := x) (n := 2) ok.1 (by omega)
  have w2 := within_small (c := y) (n := 3) ok.2 (by omega)
  refine ⟨_, _, rfl, rfl, small_line (by rw [len_and]; omega), ?_⟩
  refine ⟨_, rfl, p, T.C_And, dx, _, _, rfl, s1 _ _ hp, T.l_And, T.n_And_second, tw_s .., y, vy, _, rfl, by omega, hy.same s1, ok.2, by omega, fun H2 s2 => ?_⟩
  exact ⟨_, _, rfl, rfl, small_line (by rw [app_len, len_and]; omega), q _ (s1.trans s2)⟩
theorem st_Or_text (T : Txt w K mg) {d : Nat} (G_text_within : FnOk P w K mg base CX0 (3 + 2 * d + 1) T.text_within.f T.text_within.fd ["cond", "least"] (sp_within (clsOf T) d)) : FnOk P w K mg base CX0 (3 + 2 * d + 1 + 1) T.Or_text.f T.Or_text.fd ["self"] (sp_text (clsOf T) (d + 1) .or) := by
 refine T.Or_text.fn.ok sc_Or_text (fun vs H Q E h => ?_) (fun cdv A outer s H vs Q E hr h => ?_)
 ·obtain ⟨_, _, rfl, _⟩ := h
  rfl
 ·obtain ⟨c, v, rfl, hk, hd, hC, ok, h8, q⟩ := h
  obtain ⟨x, y, rfl⟩ := or_of hk
  obtain ⟨p, dx, vx, vy, rfl, hp, hx, hy⟩ := hC
  simp only [Cn.dp] at hd h8
  refine ⟨_, ((pss_one (ps_ret (pe_op op_add_str (pe_op op_add_str (pe_own G_text_within (hr.mono (by omega)) rfl (pa_cons (pe_fldK (K := K) rfl (pv 0) rfl) (pa_cons (pe_glob rfl T.c_OR_TIES (T.r_OR_TIES)) pa_nil))) pe_str) (pe_own G_text_within (hr.mono (by omega)) rfl (pa_cons (pe_fldK (K := K) rfl (pv 0) rfl) (pa_cons (pe_glob rfl T.c_AND_TIES (T.r_AND_TIES)) pa_nil))))))), ?_⟩
  refine ⟨_, rfl, p, T.C_Or, dx, _, _, rfl, hp, T.l_Or, T.n_Or_first, tw_f .., x, vx, _, rfl, by omega, hx, ok.1, by omega, fun H1 s1 => ?_⟩
  have w1 := within_small (c := x) (n := 1) ok.1 (by omega)
  have w2 := within_small (c := y) (n := 2) ok.2 (by omega)
  refine ⟨_, _, rfl, rfl, small_line (by rw [len_or]; omega), ?_⟩
  refine ⟨_, rfl, p, T.C_Or, dx, _, _, rfl, s1 _ _ hp, T.l_Or, T.n_Or_second, tw_s .., y, vy, _, rfl, by omega, hy.same s1, ok.2, by omega, fun H2 s2 => ?_⟩
  exact ⟨_, _, rfl, rfl, small_line (by rw [app_len, len_or]; omega), q _ (s1.trans s2)⟩
theorem st_Not_text (T : Txt w K mg) {d : Nat} (G_text_within : FnOk P w K mg base CX0 (3 + 2 * d + 1) T.text_within.f T.text_within.fd ["cond", "least"] (sp_within (clsOf T) d)) : FnOk P w K mg base CX0 (3 + 2 * d + 1 + 1) T.Not_text.f T.Not_text.fd ["self"] (sp_text (clsOf T) (d + 1) .nt) := by
 refine T.Not_text.fn.ok sc_Not_text (fun vs H Q E h => ?_) (fun cdv A outer s H vs Q E hr h => ?_)
 ·obtain ⟨_, _, rfl, _⟩ := h
  rfl
 ·obtain ⟨c, v, rfl, hk, hd, hC, ok, h8, q⟩ := h
  obtain ⟨x, rfl⟩ := nt_of hk
  obtain ⟨p, dx, vx, rfl, hp, hx⟩ := hC
  simp only [Cn.dp] at hd h8
  refine ⟨_, ((pss_one (ps_ret (pe_op op_add_str pe_str (pe_own G_text_within (hr.mono (by omega)) rfl (pa_cons (pe_fldK (K := K) rfl (pv 0) rfl) (pa_cons (pe_glob rfl T.c_ALONE_TIES (T.r_ALONE_TIES)) pa_nil))))))), ?_⟩
  refine ⟨_, rfl, p, T.C_Not, dx, _, _, rfl, hp, T.l_Not, T.n_Not_inside, on_i .., x, vx, _, rfl, by omega, hx, ok, by omega, fun H1 s1 => ?_⟩
  have w1 := within_small (c := x) (n := 3) ok (by omega)
  exact ⟨_, _, rfl, rfl, small_line (by rw [len_not]; omega), q _ s1⟩
theorem D_text (T : Txt w K mg) : ∀ d, Dy P w K mg base CX0 (3 + 2 * d) "text" ["self"] (clsOf T) (sp_text (clsOf T) d)
 | 0 => ⟨cls_all T, fun
  | .cm => ⟨_, _, T.Compare_text.me, ok_Compare_text T 0, T.Compare_text.bi⟩
  | .an => ⟨_, _, T.And_text.me, fn_never fun _ _ _ _ ⟨_, _, _, _, h, _⟩ => no_dp h, T.And_text.bi⟩
  | .or => ⟨_, _, T.Or_text.me, fn_never fun _ _ _ _ ⟨_, _, _, _, h, _⟩ => no_dp h, T.Or_text.bi⟩
  | .nt => ⟨_, _, T.Not_text.me, fn_never fun _ _ _ _ ⟨_, _, _, _, h, _⟩ => no_dp h, T.Not_text.bi⟩⟩
 | d + 1 => ⟨cls_all T, fun
  | .cm => ⟨_, _, T.Compare_text.me, (ok_Compare_text T (d + 1)).mono (by omega), T.Compare_text.bi⟩
  | .an => ⟨_, _, T.And_text.me, (st_And_text T (st_within T (D_text T d))).mono (by omega), T.And_text.bi⟩
  | .or => ⟨_, _, T.Or_text.me, (st_Or_text T (st_within T (D_text T d))).mono (by omega), T.Or_text.bi⟩
  | .nt => ⟨_, _, T.Not_text.me, (st_Not_text T (st_within T (D_text T d))).mono (by omega), T.Not_text.bi⟩⟩
theorem flat_small : ∀ {cs : List Cn} {i : Nat}, (∀ c ∈ cs, c.dp ≤ 8) → ((cs.take i).flatMap (·.names)).length ≤ (cs.take i).length * 256
 | [], i, _ => by simp
 | c :: cs, 0, _ => by simp
 | c :: cs, i + 1, h => by
  have h1 := names_small (h c List.mem_cons_self)
  have h2 := flat_small (cs := cs) (i := i) fun c hc => h c (List.mem_cons_of_mem _ hc)
  rw [List.take_succ_cons, List.flatMap_cons, List.length_append, List.length_cons]
  omega
theorem paired_left {d : Nat} {C : KC → Addr} {H : Hp} : ∀ {as : List Cn} {bs : List V}, Paired (fun (c : Cn) (v : V) => c.dp ≤ d ∧ c.dp ≤ 8 ∧ CO C H c v) as bs → ∀ c ∈ as, c.dp ≤ 8
 | _, _, .nil, _, h => nomatch h
 | _, _, .cons r t, c, h => by
  rcases List.mem_cons.mp h with rfl | h
  ·exact r.2.1
  ·exact paired_left t c h
theorem st_And_names (T : Txt w K mg) {d : Nat} (D_names_as_told : Dy P w K mg base CX0 (1 + d) "names_as_told" ["self"] (clsOf T) (sp_names (clsOf T) d)) : FnOk P w K mg base CX0 (1 + d + 1) T.And_names_as_told.f T.And_names_as_told.fd ["self"] (sp_names (clsOf T) (d + 1) .an) := by
 have G_And_parts : FnOk P w K mg base CX0 1 T.And_parts.f T.And_parts.fd _ _ := ok_And_parts T
 refine T.And_names_as_told.fn.ok sc_And_names_as_told (fun vs H Q E h => ?_) (fun cdv A outer s H vs Q E hr h => ?_)
 ·obtain ⟨_, _, rfl, _⟩ := h
  rfl
 ·obtain ⟨c, v, rfl, hk, hd, h8, hC, q⟩ := h
  obtain ⟨x, y, rfl⟩ := an_of hk
  obtain ⟨p, dx, vx, vy, rfl, hp, hx, hy⟩ := hC
  simp only [Cn.dp] at hd h8
  have kids : Paired (fun (c : Cn) (v : V) => c.dp ≤ d ∧ c.dp ≤ 8 ∧ CO (clsOf T) H c v) [x, y] [vx, vy] := .cons ⟨by omega, by omega, hx⟩ (.cons ⟨by omega, by omega, hy⟩ .nil)
  refine ⟨_, ((pss_cons (ps_set (i := 1) sc_And_names_as_told.nd rfl (Or.inl rfl) (pe_lst pa_nil))
   (pss_cons (ps_for PassesOwn.never rfl (pi_listK (K := K) rfl (pe_mown0 T.l_And G_And_parts (hr.mono (by omega)) (pv 0))) (pg_name (i := 2) sc_And_names_as_told.nd rfl (Or.inl rfl)) (pss_one (ps_expr (pe_bmK (K := K) rfl PySem.F.plainAttrs_list PySem.F.slot_list_extend PySem.F.type_list_extend mt_extend (pv 1) (pa_cons (pe_dyn0 D_names_as_told (hr.mono (by omega)) (pv 2)) pa_nil)))))
   (pss_one (ps_ret (pv 1)))))), ?_⟩
  refine ⟨small_line (show 0 ≤ 100000 by decide), fun n hn => ?_⟩
  have sn : Same H (upd H n (.lst [])) := Same.new hn
  have n1 : (twoF vx vy).lookup ("parts" : Str) = none := by rw [twoF, look_no nf_parts.2.2.2.1, look_no nf_parts.2.2.2.2.1]; rfl
  refine ⟨_, rfl, p, dx, _, rfl, sn _ _ hp, n1, p, dx, vx, vy, rfl, sn _ _ hp, fun l hl => ⟨l, rfl, ⟨_, SqL.of upd_same⟩, ?_⟩⟩
  have nl : n ≠ l := fun z => by rw [← z, upd_same] at hl; cases hl
  have hl0 : H l = none := sn.free hl
  refine for_list (K := K) (a := l) (xs := [vx, vy]) (fun i σ H2 => ∃ v2, σ = [some (.ref p), some (.ref n), v2] ∧ Same H H2 ∧ H2 l = some (.lst [vx, vy]) ∧ H2 n = some (.lst ((([x, y] : List Cn).take i).flatMap (·.names) |>.map V.str)))
   ⟨none, rfl, sn.upd hl0, upd_same, by rw [upd_ne nl]; exact upd_same⟩ (fun i σ H2 _ ⟨_, _, _, e, _⟩ => SqL.of e) ?_ ?_
  ·rintro i x' σ H2 hx' ⟨v2, rfl, sm, eL, eN⟩
   have hi : i < ([vx, vy] : List V).length := (List.getElem?_eq_some_iff.1 hx').1
   have hi2 : i < ([x, y] : List Cn).length := by rw [Paired.length kids]; exact hi
   obtain ⟨k1, k2, k3⟩ := Paired.at kids i hi2 hi
   rw [List.getElem?_eq_getElem hi] at hx'
   cases hx'
   obtain ⟨a1, d1, f1, e1, e2, e3⟩ := (k3.same sm).at "names_as_told" nf_names
   refine ⟨_, rfl, .inl ⟨rfl, _, SqL.of eN⟩, _, rfl, _, a1, d1, f1, e1, e2, e3, _, _, rfl, rfl, k1, k2, k3.same sm, fun m H3 hm s3 em => ?_⟩
   have bnd := names_small k2
   refine ⟨n, m, _, _, rfl, rfl, s3 _ _ eN, em, ?_, ?_⟩
   ·refine small_line ?_
    rw [List.length_map, List.length_map]
    have := flat_small (cs := [x, y]) (i := i) (paired_left kids)
    have l2 : ([x, y] : List Cn).length ≤ 2 := by simp
    have l3 : (([x, y] : List Cn).take i).length ≤ 2 := by rw [List.length_take]; omega
    have := Nat.mul_le_mul_right 256 l3
    omega
   ·refine ⟨_, rfl, (sm.trans s3).upd hn, by rw [upd_ne nl.symm]; exact s3 _ _ eL, ?_⟩
    rw [upd_same, List.take_succ_eq_append_getElem hi2, List.flatMap_append, List.flatMap_singleton, List.map_append]
  ·rintro σ H2 ⟨v2, rfl, sm, eL, eN⟩
   refine ⟨_, rfl, q n H2 hn sm ?_⟩
   rw [eN]
   rw [show ([vx, vy] : List V).length = ([x, y] : List Cn).length from (Paired.length kids).symm, List.take_length]
   simp [Cn.names]
theorem st_Or_names (T : Txt w K mg) {d : Nat} (D_names_as_told : Dy P w K mg base CX0 (1 + d) "names_as_told" ["self"] (clsOf T) (sp_names (clsOf T) d)) : FnOk P w K mg base CX0 (1 + d + 1) T.Or_names_as_told.f T.Or_names_as_told.fd ["self"] (sp_names (clsOf T) (d + 1) .or) := by
 have G_Or_parts : FnOk P w K mg base CX0 1 T.Or_parts.f T.Or_parts.fd _ _ := ok_Or_parts T
 refine T.Or_names_as_told.fn.ok sc_Or_names_as_told (fun vs H Q E h => ?_) (fun cdv A outer s H vs Q E hr h => ?_)
 ·obtain ⟨_, _, rfl, _⟩ := h
  rfl
 ·obtain ⟨c, v, rfl, hk, hd, h8, hC, q⟩ := h
  obtain ⟨x, y, rfl⟩ := or_of hk
  obtain ⟨p, dx, vx, vy, rfl, hp, hx, hy⟩ := hC
  simp only [Cn.dp] at hd h8
  have kids : Paired (fun (c : Cn) (v : V) => c.dp ≤ d ∧ c.dp ≤ 8 ∧ CO (clsOf T) H c v) [x, y] [vx, vy] := .cons ⟨by omega, by omega, hx⟩ (.cons ⟨by omega, by omega, hy⟩ .nil)
  refine ⟨_, ((pss_cons (ps_set (i := 1) sc_Or_names_as_told.nd rfl (Or.inl rfl) (pe_lst pa_nil))
   (pss_cons (ps_for PassesOwn.never rfl (pi_listK (K := K) rfl (pe_mown0 T.l_Or G_Or_parts (hr.mono (by omega)) (pv 0))) (pg_name (i := 2) sc_Or_names_as_told.nd rfl (Or.inl rfl)) (pss_one (ps_expr (pe_bmK (K := K) rfl PySem.F.plainAttrs_list PySem.F.slot_list_extend PySem.F.type_list_extend mt_extend (pv 1) (pa_cons (pe_dyn0 D_names_as_told (hr.mono (by omega)) (pv 2)) pa_nil)))))
   (pss_one (ps_ret (pv 1)))))), ?_⟩
  refine ⟨small_line (show 0 ≤ 100000 by decide), fun n hn => ?_⟩
  have sn : Same H (upd H n (.lst [])) := Same.new hn
  have n1 : (twoF vx vy).lookup ("parts" : Str) = none := by rw [twoF, look_no nf_parts.2.2.2.1, look_no nf_parts.2.2.2.2.1]; rfl
  refine ⟨_, rfl, p, dx, _, rfl, sn _ _ hp, n1, p, dx, vx, vy, rfl, sn _ _ hp, fun l hl => ⟨l, rfl, ⟨_, SqL.of upd_same⟩, ?_⟩⟩
  have nl : n ≠ l := fun z => by rw [← z, upd_same] at hl; cases hl
  have hl0 : H l = none := sn.free hl
  refine for_list (K := K) (a := l) (xs := [vx, vy]) (fun i σ H2 => ∃ v2, σ = [some (.ref p), some (.ref n), v2] ∧ Same H H2 ∧ H2 l = some (.lst [vx, vy]) ∧ H2 n = some (.lst ((([x, y] : List Cn).take i).flatMap (·.names) |>.map V.str)))
   ⟨none, rfl, sn.upd hl0, upd_same, by rw [upd_ne nl]; exact upd_same⟩ (fun i σ H2 _ ⟨_, _, _, e, _⟩ => SqL.of e) ?_ ?_
  ·rintro i x' σ H2 hx' ⟨v2, rfl, sm, eL, eN⟩
   have hi : i < ([vx, vy] : List V).length := (List.getElem?_eq_some_iff.1 hx').1
   have hi2 : i < ([x, y] : List Cn).length := by rw [Paired.length kids]; exact hi
   obtain ⟨k1, k2, k3⟩ := Paired.at kids i hi2 hi
   rw [List.getElem?_eq_getElem hi] at hx'
   cases hx'
   obtain ⟨a1, d1, f1, e1, e2, e3⟩ := (k3.same sm).at "names_as_told" nf_names
   refine ⟨_, rfl, .inl ⟨rfl, _, SqL.of eN⟩, _, rfl, _, a1, d1, f1, e1, e2, e3, _, _, rfl, rfl, k1, k2, k3.same sm, fun m H3 hm s3 em => ?_⟩
   have bnd := names_small k2
   refine ⟨n, m, _, _, rfl, rfl, s3 _ _ eN, em, ?_, ?_⟩
   ·refine small_line ?_
    rw [List.length_map, List.length_map]
    have := flat_small (cs := [x, y]) (i := i) (paired_left kids)
    have l2 : ([x, y] : List Cn).length ≤ 2 := by simp
    have l3 : (([x, y] : List Cn).take i).length ≤ 2 := by rw [List.length_take]; omega
    have := Nat.mul_le_mul_right 256 l3
    omega
   ·refine ⟨_, rfl, (sm.trans s3).upd hn, by rw [upd_ne nl.symm]; exact s3 _ _ eL, ?_⟩
    rw [upd_same, List.take_succ_eq_append_getElem hi2, List.flatMap_append, List.flatMap_singleton, List.map_append]
  ·rintro σ H2 ⟨v2, rfl, sm, eL, eN⟩
   refine ⟨_, rfl, q n H2 hn sm ?_⟩
   rw [eN]
   rw [show ([vx, vy] : List V).length = ([x, y] : List Cn).length from (Paired.length kids).symm, List.take_length]
   simp [Cn.names]
theorem st_Not_names (T : Txt w K mg) {d : Nat} (D_names_as_told : Dy P w K mg base CX0 (1 + d) "names_as_told" ["self"] (clsOf T) (sp_names (clsOf T) d)) : FnOk P w K mg base CX0 (1 + d + 1) T.Not_names_as_told.f T.Not_names_as_told.fd ["self"] (sp_names (clsOf T) (d + 1) .nt) := by
 have G_Not_parts : FnOk P w K mg base CX0 1 T.Not_parts.f T.Not_parts.fd _ _ := ok_Not_parts T
 refine T.Not_names_as_told.fn.ok sc_Not_names_as_told (fun vs H Q E h => ?_) (fun cdv A outer s H vs Q E hr h => ?_)
 ·obtain ⟨_, _, rfl, _⟩ := h
  rfl
 ·obtain ⟨c, v, rfl, hk, hd, h8, hC, q⟩ := h
  obtain ⟨x, rfl⟩ := nt_of hk
  obtain ⟨p, dx, vx, rfl, hp, hx⟩ := hC
  simp only [Cn.dp] at hd h8
  have kids : Paired (fun (c : Cn) (v : V) => c.dp ≤ d ∧ c.dp ≤ 8 ∧ CO (clsOf T) H c v) [x] [vx] := .cons ⟨by omega, by omega, hx⟩ .nil
  refine ⟨_, ((pss_cons (ps_set (i := 1) sc_Not_names_as_told.nd rfl (Or.inl rfl) (pe_lst pa_nil))
   (pss_cons (ps_for PassesOwn.never rfl (pi_listK (K := K) rfl (pe_mown0 T.l_Not G_Not_parts (hr.mono (by omega)) (pv 0))) (pg_name (i := 2) sc_Not_names_as_told.nd rfl (Or.inl rfl)) (pss_one (ps_expr (pe_bmK (K := K) rfl PySem.F.plainAttrs_list PySem.F.slot_list_extend PySem.F.type_list_extend mt_extend (pv 1) (pa_cons (pe_dyn0 D_names_as_told (hr.mono (by omega)) (pv 2)) pa_nil)))))
   (pss_one (ps_ret (pv 1)))))), ?_⟩
  refine ⟨small_line (show 0 ≤ 100000 by decide), fun n hn => ?_⟩
  have sn : Same H (upd H n (.lst [])) := Same.new hn
  have n1 : (oneF vx).lookup ("parts" : Str) = none := by rw [oneF, look_no nf_parts.2.2.2.2.2]; rfl
  refine ⟨_, rfl, p, dx, _, rfl, sn _ _ hp, n1, p, dx, vx, rfl, sn _ _ hp, fun l hl => ⟨l, rfl, ⟨_, SqL.of upd_same⟩, ?_⟩⟩
  have nl : n ≠ l := fun z => by rw [← z, upd_same] at hl; cases hl
  have hl0 : H l = none := sn.free hl
  refine for_list (K := K) (a := l) (xs := [vx]) (fun i σ H2 => ∃ v2, σ = [some (.ref p), some (.ref n), v2] ∧ Same H H2 ∧ H2 l = some (.lst [vx]) ∧ H2 n = some (.lst ((([x] : List Cn).take i).flatMap (·.names) |>.map V.str)))
   ⟨none, rfl, sn.upd hl0, upd_same, by rw [upd_ne nl]; exact upd_same⟩ (fun i σ H2 _ ⟨_, _, _, e, _⟩ => SqL.of e) ?_ ?_
  ·rintro i x' σ H2 hx' ⟨v2, rfl, sm, eL, eN⟩
   have hi : i < ([vx] : List V).length := (List.getElem?_eq_some_iff.1 hx').1
   have hi2 : i < ([x] : List Cn).length := by rw [Paired.length kids]; exact hi
   obtain ⟨k1, k2, k3⟩ := Paired.at kids i hi2 hi
   rw [List.getElem?_eq_getElem hi] at hx'
   cases hx'
   obtain ⟨a1, d1, f1, e1, e2, e3⟩ := (k3.same sm).at "names_as_told" nf_names
   refine ⟨_, rfl, .inl ⟨rfl, _, SqL.of eN⟩, _, rfl, _, a1, d1, f1, e1, e2, e3, _, _, rfl, rfl, k1, k2, k3.same sm, fun m H3 hm s3 em => ?_⟩
   have bnd := names_small k2
   refine ⟨n, m, _, _, rfl, rfl, s3 _ _ eN, em, ?_, ?_⟩
   ·refine small_line ?_
    rw [List.length_map, List.length_map]
    have := flat_small (cs := [x]) (i := i) (paired_left kids)
    have l2 : ([x] : List Cn).length ≤ 2 := by simp
    have l3 : (([x] : List Cn).take i).length ≤ 2 := by rw [List.length_take]; omega
    have := Nat.mul_le_mul_right 256 l3
    omega
   ·refine ⟨_, rfl, (sm.trans s3).upd hn, by rw [upd_ne nl.symm]; exact s3 _ _ eL, ?_⟩
    rw [upd_same, List.take_succ_eq_append_getElem hi2, List.flatMap_append, List.flatMap_singleton, List.map_append]
  ·rintro σ H2 ⟨v2, rfl, sm, eL, eN⟩
   refine ⟨_, rfl, q n H2 hn sm ?_⟩
   rw [eN]
   rw [show ([vx] : List V).length = ([x] : List Cn).length from (Paired.length kids).symm, List.take_length]
   simp [Cn.names]
theorem D_names (T : Txt w K mg) : ∀ d, Dy P w K mg base CX0 (1 + d) "names_as_told" ["self"] (clsOf T) (sp_names (clsOf T) d)
 | 0 => ⟨cls_all T, fun
  | .cm => ⟨_, _, T.Compare_names_as_told.me, ok_Compare_names_as_told T 0, T.Compare_names_as_told.bi⟩
  | .an => ⟨_, _, T.And_names_as_told.me, fn_never fun _ _ _ _ ⟨_, _, _, _, h, _⟩ => no_dp h, T.And_names_as_told.bi⟩
  | .or => ⟨_, _, T.Or_names_as_told.me, fn_never fun _ _ _ _ ⟨_, _, _, _, h, _⟩ => no_dp h, T.Or_names_as_told.bi⟩
  | .nt => ⟨_, _, T.Not_names_as_told.me, fn_never fun _ _ _ _ ⟨_, _, _, _, h, _⟩ => no_dp h, T.Not_names_as_told.bi⟩⟩
 | d + 1 => ⟨cls_all T, fun
  | .cm => ⟨_, _, T.Compare_names_as_told.me, (ok_Compare_names_as_told T (d + 1)).mono (by omega), T.Compare_names_as_told.bi⟩
  | .an => ⟨_, _, T.And_names_as_told.me, st_And_names T (D_names T d), T.And_names_as_told.bi⟩
  | .or => ⟨_, _, T.Or_names_as_told.me, st_Or_names T (D_names T d), T.Or_names_as_told.bi⟩
  | .nt => ⟨_, _, T.Not_names_as_told.me, st_Not_names T (D_names T d), T.Not_names_as_told.bi⟩⟩
end
theorem find_at {α β : Type} {f : α → Option β} {x : β} : ∀ {l : List α} {i : Nat} (hi : i < l.length), (∀ (j : Nat) (hj : j < l.length), j < i → f l[j] = none) → f l[i] = some x → l.findSome? f = some x
 | [], _, hi, _, _ => absurd hi (Nat.not_lt_zero _)
 | a :: l, 0, _, _, h => by rw [List.findSome?_cons, show f a = some x from h]
 | a :: l, i + 1, hi, n, h => by
  rw [List.findSome?_cons, show f a = none from n 0 (Nat.zero_lt_succ _) (Nat.zero_lt_succ _)]
  exact find_at (Nat.lt_of_succ_lt_succ hi) (fun j hj hji => n (j + 1) (Nat.succ_lt_succ hj) (Nat.succ_lt_succ hji)) h
theorem find_no {α β : Type} {f : α → Option β} : ∀ {l : List α}, (∀ (j : Nat) (hj : j < l.length), f l[j] = none) → l.findSome? f = none
 | [], _ => rfl
 | a :: l, n => by
  rw [List.findSome?_cons, show f a = none from n 0 (Nat.zero_lt_succ _)]
  exact find_no fun j hj => n (j + 1) (Nat.succ_lt_succ hj)
theorem fault_an (κ : Row) (a b : Cn) : (Cn.an a b).fault κ = [a, b].findSome? (·.fault κ) := by
 simp only [Cn.fault, List.findSome?_cons, List.findSome?_nil]
 cases a.fault κ <;> cases b.fault κ <;> rfl
theorem fault_or (κ : Row) (a b : Cn) : (Cn.or a b).fault κ = [a, b].findSome? (·.fault κ) := by
 simp only [Cn.fault, List.findSome?_cons, List.findSome?_nil]
 cases a.fault κ <;> cases b.fault κ <;> rfl
theorem fault_nt (κ : Row) (a : Cn) : (Cn.nt a).fault κ = [a].findSome? (·.fault κ) := by
 simp only [Cn.fault, List.findSome?_cons, List.findSome?_nil]
 cases a.fault κ <;> rfl
theorem look_text {κ : Row} (h : texts κ) {n : Str} {v : V} (e : look κ n = some v) : ∃ x, v = .str x := by
 unfold look valV at e
 obtain ⟨p, hp, rfl⟩ := Option.map_eq_some_iff.mp e
 exact h p (List.mem_of_find?_eq_some hp)
theorem once_len : ∀ (ys acc : List Str), (onceOf acc ys).length ≤ acc.length + ys.length
 | [], acc => Nat.le_refl _
 | y :: ys, acc => by
  have := once_len ys (if y ∈ acc then acc else acc ++ [y])
  show (onceOf _ ys).length ≤ _
  rw [List.length_cons]
  split at this
  ·rename_i h
   rw [if_pos h]
   omega
  ·rename_i h
   rw [if_neg h]
   rw [List.length_append] at this
   simp only [List.length_cons, List.length_nil] at this
   omega
def sp_nin (C : KC → Addr) (d : Nat) (k : KC) : Sp := fun vs H Q _ => ∃ c v, vs = [v] ∧ c.k = k ∧ c.dp ≤ d ∧ c.dp ≤ 5 ∧ CO C H c v ∧ ∀ l ms H', Same H H' → ms.Perm (onceOf [] c.names) → sortedS ms = true → H' l = some (.lst (ms.map V.str)) → Q (.ref l) H'
theorem dec_ne {x y : V} (h : x ≠ y) : (!decide (x = y)) = true := by rw [decide_eq_false h]; rfl
section
variable {P : Program} {w : World} {K : PySem.W.Frag} {mg : Str → Option Value} {base : Heap}
theorem ok_Compare_judged (T : Txt w K mg) (d : Nat) : FnOk P w K mg base (CX1 P w) 4 T.Compare_judged.f T.Compare_judged.fd ["self", "kinds"] (sp_judged (clsOf T) T.C_NoColumn T.C_WrongKind d .cm) := by
 have G_Compare_names_as_told : FnOk P w K mg base CX0 1 T.Compare_names_as_told.f T.Compare_names_as_told.fd _ _ := ok_Compare_names_as_told T d
 have G_Compare_right_kind : FnOk P w K mg base CX0 3 T.Compare_right_kind.f T.Compare_right_kind.fd _ _ := ok_Compare_right_kind T
 have G_NoColumn___init__ : FnOk P w K mg base CX0 1 T.NoColumn___init__.f T.NoColumn___init__.fd _ _ := ok_NoColumn___init__ T
 have G_WrongKind___init__ : FnOk P w K mg base CX0 1 T.WrongKind___init__.f T.WrongKind___init__.fd _ _ := ok_WrongKind___init__ T
 refine T.Compare_judged.fn.ok1 sc_Compare_judged (fun vs H Q E h => ?_) (fun cdv A outer s H vs Q E hr h => ?_)
 ·obtain ⟨_, _, _, _, rfl, _⟩ := h
  rfl
 ·obtain ⟨c, v, a, κ, rfl, hk, hd, hC, ok, ha, tx, no, yes⟩ := h
  obtain ⟨l, sg, r, rfl⟩ := cmp_of hk
  have hC' := hC
  obtain ⟨p, dx, b, rfl, hp, hb⟩ := hC
  have hu1 := hu_of hr
  have n1 : (cmF l sg b).lookup ("names_as_told" : Str) = none := by rw [cmF, look_no nf_names.1, look_no nf_names.2.1, look_no nf_names.2.2.1]; rfl
  have n2 : (cmF l sg b).lookup ("right_kind" : Str) = none := by rw [cmF, look_no nf_rk.1, look_no nf_rk.2.1, look_no nf_rk.2.2.1]; rfl
  refine ⟨_, ((pss_cons (ps_for PassesOwn.leaving rfl (pi_listK (K := K) rfl (pe_mown0 T.l_Compare G_Compare_names_as_told (hr.mono (by omega)) (pv 0))) (pg_name (i := 2) sc_Compare_judged.nd rfl (Or.inl rfl)) (pss_one (ps_if (pt_cmp (pc_dnotin hu1 (pv 2) (pv 1))) (pss_one (ps_raiseI T.k_NoColumn G_NoColumn___init__ (hr.mono (by omega)) rfl T.c_NoColumn T.NoColumn___init__.bi (pa_cons (pv 2) pa_nil))) pss_nil)))
   (pss_one (ps_if (pt_cmpR op_ne (pe_dget hu1 (pv 1) (pe_fldK (K := K) rfl (pv 0) rfl) (fun _ _ => rfl)) (pe_mown T.l_Compare G_Compare_right_kind (hr.mono (by omega)) (pv 0) (pa_cons (pv 1) pa_nil)) (nomark _)) (pss_one (ps_raiseI T.k_WrongKind G_WrongKind___init__ (hr.mono (by omega)) rfl T.c_WrongKind T.WrongKind___init__.bi (pa_cons (pe_fldK (K := K) rfl (pv 0) rfl) pa_nil))) pss_nil)))), ?_⟩
  refine ⟨_, rfl, p, dx, _, rfl, hp, n1, _, _, rfl, rfl, hd, (show 1 ≤ 8 by decide), hC', fun L H1 hL s1 eL => ⟨L, rfl, ⟨_, SqL.of eL⟩, ?_⟩⟩
  refine for_list (K := K) (a := L) (xs := (Cn.cmp l sg r).names.map V.str) (fun i σ H2 => ∃ v2, σ = [some (.ref p), some (.ref a), v2] ∧ Same H1 H2 ∧ ∀ j (hj : j < (Cn.cmp l sg r).names.length), j < i → ∃ z, look κ (Cn.cmp l sg r).names[j] = some z)
   ⟨none, rfl, Same.refl _, fun j _ h => absurd h (Nat.not_lt_zero _)⟩ (fun i σ H2 _ ⟨_, _, sm, _⟩ => SqL.of (sm _ _ eL)) ?_ ?_
  ·rintro i x' σ H2 hx' ⟨v2, rfl, sm, all⟩
   have hi : i < (Cn.cmp l sg r).names.length := by
    have := (List.getElem?_eq_some_iff.1 hx').1
    rwa [List.length_map] at this
   rw [List.getElem?_map, List.getElem?_eq_getElem hi] at hx'
   cases hx'
   cases lk : look κ (Cn.cmp l sg r).names[i] with
   | some z =>
    refine ⟨_, rfl, _, rfl, a, _, rfl, look_get ((s1.trans sm) _ _ ha) lk, _, rfl, iteF ?_⟩
    refine ⟨_, rfl, sm, fun j hj hji => ?_⟩
    rcases Nat.lt_succ_iff_lt_or_eq.mp hji with h | h
    ·exact all j hj h
    ·subst h
     exact ⟨z, lk⟩
   | none =>
    refine ⟨_, rfl, _, rfl, a, _, rfl, look_no2 ((s1.trans sm) _ _ ha) lk, _, rfl, iteT ?_⟩
    refine ⟨_, rfl, fun e he => ⟨e, _, rfl, rfl, upd_same, fun d hd ne => ⟨rfl, e, d, rfl, (made_step he hd ne).2.1, ?_⟩⟩⟩
    obtain ⟨s2, e2⟩ := raise_step (fs := [("name", .str (Cn.cmp l sg r).names[i])]) he hd ne
    refine yes true _ ?_ d _ ((s1.trans sm).trans s2) e2
    cases i with
    | zero =>
     have lk : look κ l = none := lk
     simp only [Cn.fault, lk]
     rfl
    | succ i =>
     obtain ⟨z, hz⟩ := all 0 (by simp [Cn.names]) (Nat.zero_lt_succ _)
     have hz0 : look κ l = some z := hz
     cases r with
     | col n =>
      have i0 : i = 0 := by simp [Cn.names, At.names] at hi; omega
      subst i0
      have lk : look κ n = none := lk
      show (match look κ l, look κ n with | none, _ => some (true, l) | some _, none => some (true, n) | some a, some b => if a = b then none else some (false, l)) = some (true, n)
      rw [hz0, lk]
     | num _ => simp [Cn.names, At.names] at hi
     | wrd _ => simp [Cn.names, At.names] at hi
  ·rintro σ H2 ⟨v2, rfl, sm, all⟩
   rw [List.length_map] at all
   have S2 : Same H H2 := s1.trans sm
   obtain ⟨x, hx⟩ := all 0 (by simp [Cn.names]) (by simp [Cn.names])
   have hx : look κ l = some x := hx
   obtain ⟨y, hy⟩ : ∃ y, r.kd κ = some y := by
    cases r with
    | col n =>
     obtain ⟨y, hy⟩ := all 1 (by simp [Cn.names, At.names]) (by simp [Cn.names, At.names])
     exact ⟨y, hy⟩
    | num _ => exact ⟨_, rfl⟩
    | wrd _ => exact ⟨_, rfl⟩
   obtain ⟨tx1, rfl⟩ := look_text tx hx
   obtain ⟨ty1, rfl⟩ : ∃ z, y = .str z := by
    cases r with
    | col n => exact look_text tx hy
    | num _ => cases hy; exact ⟨_, rfl⟩
    | wrd _ => cases hy; exact ⟨_, rfl⟩
   refine ⟨_, rfl, _, rfl, p, T.C_Compare, dx, _, _, rfl, S2 _ _ hp, T.l_Compare, T.n_Compare_left, cm_l .., a, _, rfl, look_get (S2 _ _ ha) hx, ?_⟩
   refine ⟨_, rfl, p, dx, _, rfl, S2 _ _ hp, n2, _, rfl, l, sg, r, _, a, κ, _, rfl, hC'.same S2, ok.2.2, S2 _ _ ha, hy, ?_⟩
   refine ⟨rfl, _, rfl, ite2 (fun z => ?_) (fun z => ?_)⟩
   ·refine ⟨_, rfl, p, T.C_Compare, dx, _, _, rfl, S2 _ _ hp, T.l_Compare, T.n_Compare_left, cm_l .., fun e he => ⟨e, _, rfl, rfl, upd_same, fun d hd ne => ⟨rfl, e, d, rfl, (made_step he hd ne).2.1, ?_⟩⟩⟩
    obtain ⟨s2, e2⟩ := raise_step (fs := [("name", .str l)]) he hd ne
    refine yes false l ?_ d _ (S2.trans s2) e2
    have ne : ¬ V.str tx1 = V.str ty1 := fun e => by rw [decide_eq_true e] at z; cases z
    simp only [Cn.fault, hx, hy]
    rw [if_neg ne]
   ·refine no ?_ _ S2
    have eq : V.str tx1 = V.str ty1 := Classical.byContradiction fun e => z (dec_ne e)
    simp only [Cn.fault, hx, hy]
    rw [if_pos eq]
theorem st_And_judged (T : Txt w K mg) {d : Nat} (D_judged : Dy P w K mg base (CX1 P w) (4 + d) "judged" ["self", "kinds"] (clsOf T) (sp_judged (clsOf T) T.C_NoColumn T.C_WrongKind d)) : FnOk P w K mg base (CX1 P w) (4 + d + 1) T.And_judged.f T.And_judged.fd ["self", "kinds"] (sp_judged (clsOf T) T.C_NoColumn T.C_WrongKind (d + 1) .an) := by
 have G_And_parts : FnOk P w K mg base CX0 1 T.And_parts.f T.And_parts.fd _ _ := ok_And_parts T
 refine T.And_judged.fn.ok1 sc_And_judged (fun vs H Q E h => ?_) (fun cdv A outer s H vs Q E hr h => ?_)
 ·obtain ⟨_, _, _, _, rfl, _⟩ := h
  rfl
 ·obtain ⟨c, v, a, κ, rfl, hk, hd, hC, ok, ha, tx, no, yes⟩ := h
  obtain ⟨x, y, rfl⟩ := an_of hk
  obtain ⟨p, dx, vx, vy, rfl, hp, hx, hy⟩ := hC
  simp only [Cn.dp] at hd
  rw [fault_an] at no yes
  have kids : Paired (fun (c : Cn) (v : V) => c.dp ≤ d ∧ c.ok ∧ CO (clsOf T) H c v) [x, y] [vx, vy] := .cons ⟨by omega, ok.1, hx⟩ (.cons ⟨by omega, ok.2, hy⟩ .nil)
  have n1 : (twoF vx vy).lookup ("parts" : Str) = none := by rw [twoF, look_no nf_parts.2.2.2.1, look_no nf_parts.2.2.2.2.1]; rfl
  refine ⟨_, ((pss_one (ps_for PassesOwn.leaving rfl (pi_listK (K := K) rfl (pe_mown0 T.l_And G_And_parts (hr.mono (by omega)) (pv 0))) (pg_name (i := 2) sc_And_judged.nd rfl (Or.inl rfl)) (pss_one (ps_expr (pe_dyn1 D_judged (hr.mono (by omega)) (pv 2) (pa_cons (pv 1) pa_nil))))))), ?_⟩
  refine ⟨_, rfl, p, dx, _, rfl, hp, n1, p, dx, vx, vy, rfl, hp, fun L hL => ⟨L, rfl, ⟨_, SqL.of upd_same⟩, ?_⟩⟩
  have s1 : Same H (upd H L (.lst [vx, vy])) := Same.new hL
  refine for_list (K := K) (a := L) (xs := [vx, vy]) (fun i σ H2 => ∃ v2, σ = [some (.ref p), some (.ref a), v2] ∧ Same (upd H L (.lst [vx, vy])) H2 ∧ ∀ j (hj : j < ([x, y] : List Cn).length), j < i → ([x, y] : List Cn)[j].fault κ = none)
   ⟨none, rfl, Same.refl _, fun j _ h => absurd h (Nat.not_lt_zero _)⟩ (fun i σ H2 _ ⟨_, _, sm, _⟩ => SqL.of (sm _ _ upd_same)) ?_ ?_
  ·rintro i x' σ H2 hx' ⟨v2, rfl, sm, all⟩
   have hi : i < ([vx, vy] : List V).length := (List.getElem?_eq_some_iff.1 hx').1
   have hi2 : i < ([x, y] : List Cn).length := by rw [Paired.length kids]; exact hi
   obtain ⟨k1, k2, k3⟩ := Paired.at kids i hi2 hi
   rw [List.getElem?_eq_getElem hi] at hx'
   cases hx'
   have S2 : Same H H2 := s1.trans sm
   obtain ⟨a1, d1, f1, e1, e2, e3⟩ := (k3.same S2).at "judged" nf_judged
   refine ⟨_, rfl, _, a1, d1, f1, e1, e2, e3, _, rfl, _, _, a, κ, rfl, rfl, k1, k3.same S2, k2, S2 _ _ ha, tx, fun fn H3 s3 => ?_, fun b n fs => ?_⟩
   ·refine ⟨_, rfl, sm.trans s3, fun j hj hji => ?_⟩
    rcases Nat.lt_succ_iff_lt_or_eq.mp hji with h | h
    ·exact all j hj h
    ·subst h
     exact fn
   ·exact (yes b n (find_at hi2 all fs)).same S2
  ·rintro σ H2 ⟨v2, rfl, sm, all⟩
   rw [show ([vx, vy] : List V).length = ([x, y] : List Cn).length from (Paired.length kids).symm] at all
   exact no (find_no fun j hj => all j hj hj) _ (s1.trans sm)
theorem st_Or_judged (T : Txt w K mg) {d : Nat} (D_judged : Dy P w K mg base (CX1 P w) (4 + d) "judged" ["self", "kinds"] (clsOf T) (sp_judged (clsOf T) T.C_NoColumn T.C_WrongKind d)) : FnOk P w K mg base (CX1 P w) (4 + d + 1) T.Or_judged.f T.Or_judged.fd ["self", "kinds"] (sp_judged (clsOf T) T.C_NoColumn T.C_WrongKind (d + 1) .or) := by
 have G_Or_parts : FnOk P w K mg base CX0 1 T.Or_parts.f T.Or_parts.fd _ _ := ok_Or_parts T
 refine T.Or_judged.fn.ok1 sc_Or_judged (fun vs H Q E h => ?_) (fun cdv A outer s H vs Q E hr h => ?_)
 ·obtain ⟨_, _, _, _, rfl, _⟩ := h
  rfl
 ·obtain ⟨c, v, a, κ, rfl, hk, hd, hC, ok, ha, tx, no, yes⟩ := h
  obtain ⟨x, y, rfl⟩ := or_of hk
  obtain ⟨p, dx, vx, vy, rfl, hp, hx, hy⟩ := hC
  simp only [Cn.dp] at hd
  rw [fault_or] at no yes
  have kids : Paired (fun (c : Cn) (v : V) => c.dp ≤ d ∧ c.ok ∧ CO (clsOf T) H c v) [x, y] [vx, vy] := .cons ⟨by omega, ok.1, hx⟩ (.cons ⟨by omega, ok.2, hy⟩ .nil)
  have n1 : (twoF vx vy).lookup ("parts" : Str) = none := by rw [twoF, look_no nf_parts.2.2.2.1, look_no nf_parts.2.2.2.2.1]; rfl
  refine ⟨_, ((pss_one (ps_for PassesOwn.leaving rfl (pi_listK (K := K) rfl (pe_mown0 T.l_Or G_Or_parts (hr.mono (by omega)) (pv 0))) (pg_name (i := 2) sc_Or_judged.nd rfl (Or.inl rfl)) (pss_one (ps_expr (pe_dyn1 D_judged (hr.mono (by omega)) (pv 2) (pa_cons (pv 1) pa_nil))))))), ?_⟩
  refine ⟨_, rfl, p, dx, _, rfl, hp, n1, p, dx, vx, vy, rfl, hp, fun L hL => ⟨L, rfl, ⟨_, SqL.of upd_same⟩, ?_⟩⟩
  have s1 : Same H (upd H L (.lst [vx, vy])) := Same.new hL
  refine for_list (K := K) (a := L) (xs := [vx, vy]) (fun i σ H2 => ∃ v2, σ = [some (.ref p), some (.ref a), v2] ∧ Same (upd H L (.lst [vx, vy])) H2 ∧ ∀ j (hj : j < ([x, y] : List Cn).length), j < i → ([x, y] : List Cn)[j].fault κ = none)
   ⟨none, rfl, Same.refl _, fun j _ h => absurd h (Nat.not_lt_zero _)⟩ (fun i σ H2 _ ⟨_, _, sm, _⟩ => SqL.of (sm _ _ upd_same)) ?_ ?_
  ·rintro i x' σ H2 hx' ⟨v2, rfl, sm, all⟩
   have hi : i < ([vx, vy] : List V).length := (List.getElem?_eq_some_iff.1 hx').1
   have hi2 : i < ([x, y] : List Cn).length := by rw [Paired.length kids]; exact hi
   obtain ⟨k1, k2, k3⟩ := Paired.at kids i hi2 hi
   rw [List.getElem?_eq_getElem hi] at hx'
   cases hx'
   have S2 : Same H H2 := s1.trans sm
   obtain ⟨a1, d1, f1, e1, e2, e3⟩ := (k3.same S2).at "judged" nf_judged
   refine ⟨_, rfl, _, a1, d1, f1, e1, e2, e3, _, rfl, _, _, a, κ, rfl, rfl, k1, k3.same S2, k2, S2 _ _ ha, tx, fun fn H3 s3 => ?_, fun b n fs => ?_⟩
   ·refine ⟨_, rfl, sm.trans s3, fun j hj hji => ?_⟩
    rcases Nat.lt_succ_iff_lt_or_eq.mp hji with h | h
    ·exact all j hj h
    ·subst h
     exact fn
   ·exact (yes b n (find_at hi2 all fs)).same S2
  ·rintro σ H2 ⟨v2, rfl, sm, all⟩
   rw [show ([vx, vy] : List V).length = ([x, y] : List Cn).length from (Paired.length kids).symm] at all
   exact no (find_no fun j hj => all j hj hj) _ (s1.trans sm)
theorem st_Not_judged (T : Txt w K mg) {d : Nat} (D_judged : Dy P w K mg base (CX1 P w) (4 + d) "judged" ["self", "kinds"] (clsOf T) (sp_judged (clsOf T) T.C_NoColumn T.C_WrongKind d)) : FnOk P w K mg base (CX1 P w) (4 + d + 1) T.Not_judged.f T.Not_judged.fd ["self", "kinds"] (sp_judged (clsOf T) T.C_NoColumn T.C_WrongKind (d + 1) .nt) := by
 have G_Not_parts : FnOk P w K mg base CX0 1 T.Not_parts.f T.Not_parts.fd _ _ := ok_Not_parts T
 refine T.Not_judged.fn.ok1 sc_Not_judged (fun vs H Q E h => ?_) (fun cdv A outer s H vs Q E hr h => ?_)
 ·obtain ⟨_, _, _, _, rfl, _⟩ := h
  rfl
 ·obtain ⟨c, v, a, κ, rfl, hk, hd, hC, ok, ha, tx, no, yes⟩ := h
  obtain ⟨x, rfl⟩ := nt_of hk
  obtain ⟨p, dx, vx, rfl, hp, hx⟩ := hC
  simp only [Cn.dp] at hd
  rw [fault_nt] at no yes
  have kids : Paired (fun (c : Cn) (v : V) => c.dp ≤ d ∧ c.ok ∧ CO (clsOf T) H c v) [x] [vx] := .cons ⟨by omega, ok, hx⟩ .nil
  have n1 : (oneF vx).lookup ("parts" : Str) = none := by rw [oneF, look_no nf_parts.2.2.2.2.2]; rfl
  refine ⟨_, ((pss_one (ps_for PassesOwn.leaving rfl (pi_listK (K := K) rfl (pe_mown0 T.l_Not G_Not_parts (hr.mono (by omega)) (pv 0))) (pg_name (i := 2) sc_Not_judged.nd rfl (Or.inl rfl)) (pss_one (ps_expr (pe_dyn1 D_judged (hr.mono (by omega)) (pv 2) (pa_cons (pv 1) pa_nil))))))), ?_⟩
  refine ⟨_, rfl, p, dx, _, rfl, hp, n1, p, dx, vx, rfl, hp, fun L hL => ⟨L, rfl, ⟨_, SqL.of upd_same⟩, ?_⟩⟩
  have s1 : Same H (upd H L (.lst [vx])) := Same.new hL
  refine for_list (K := K) (a := L) (xs := [vx]) (fun i σ H2 => ∃ v2, σ = [some (.ref p), some (.ref a), v2] ∧ Same (upd H L (.lst [vx])) H2 ∧ ∀ j (hj : j < ([x] : List Cn).length), j < i → ([x] : List Cn)[j].fault κ = none)
   ⟨none, rfl, Same.refl _, fun j _ h => absurd h (Nat.not_lt_zero _)⟩ (fun i σ H2 _ ⟨_, _, sm, _⟩ => SqL.of (sm _ _ upd_same)) ?_ ?_
  ·rintro i x' σ H2 hx' ⟨v2, rfl, sm, all⟩
   have hi : i < ([vx] : List V).length := (List.getElem?_eq_some_iff.1 hx').1
   have hi2 : i < ([x] : List Cn).length := by rw [Paired.length kids]; exact hi
   obtain ⟨k1, k2, k3⟩ := Paired.at kids i hi2 hi
   rw [List.getElem?_eq_getElem hi] at hx'
   cases hx'
   have S2 : Same H H2 := s1.trans sm
   obtain ⟨a1, d1, f1, e1, e2, e3⟩ := (k3.same S2).at "judged" nf_judged
   refine ⟨_, rfl, _, a1, d1, f1, e1, e2, e3, _, rfl, _, _, a, κ, rfl, rfl, k1, k3.same S2, k2, S2 _ _ ha, tx, fun fn H3 s3 => ?_, fun b n fs => ?_⟩
   ·refine ⟨_, rfl, sm.trans s3, fun j hj hji => ?_⟩
    rcases Nat.lt_succ_iff_lt_or_eq.mp hji with h | h
    ·exact all j hj h
    ·subst h
     exact fn
   ·exact (yes b n (find_at hi2 all fs)).same S2
  ·rintro σ H2 ⟨v2, rfl, sm, all⟩
   rw [show ([vx] : List V).length = ([x] : List Cn).length from (Paired.length kids).symm] at all
   exact no (find_no fun j hj => all j hj hj) _ (s1.trans sm)
theorem D_judged (T : Txt w K mg) : ∀ d, Dy P w K mg base (CX1 P w) (4 + d) "judged" ["self", "kinds"] (clsOf T) (sp_judged (clsOf T) T.C_NoColumn T.C_WrongKind d)
 | 0 => ⟨cls_all T, fun
  | .cm => ⟨_, _, T.Compare_judged.me, ok_Compare_judged T 0, T.Compare_judged.bi⟩
  | .an => ⟨_, _, T.And_judged.me, fn_never fun _ _ _ _ ⟨_, _, _, _, _, _, h, _⟩ => no_dp h, T.And_judged.bi⟩
  | .or => ⟨_, _, T.Or_judged.me, fn_never fun _ _ _ _ ⟨_, _, _, _, _, _, h, _⟩ => no_dp h, T.Or_judged.bi⟩
  | .nt => ⟨_, _, T.Not_judged.me, fn_never fun _ _ _ _ ⟨_, _, _, _, _, _, h, _⟩ => no_dp h, T.Not_judged.bi⟩⟩
 | d + 1 => ⟨cls_all T, fun
  | .cm => ⟨_, _, T.Compare_judged.me, (ok_Compare_judged T (d + 1)).mono (by omega), T.Compare_judged.bi⟩
  | .an => ⟨_, _, T.And_judged.me, st_And_judged T (D_judged T d), T.And_judged.bi⟩
  | .or => ⟨_, _, T.Or_judged.me, st_Or_judged T (D_judged T d), T.Or_judged.bi⟩
  | .nt => ⟨_, _, T.Not_judged.me, st_Not_judged T (D_judged T d), T.Not_judged.bi⟩⟩
theorem ok_Compare_names_in (T : Txt w K mg) : FnOk P w K mg base CX0 7 T.Compare_names_in.f T.Compare_names_in.fd ["self"] (sp_nin (clsOf T) 5 .cm) := by
 have G_Compare_names_as_told : FnOk P w K mg base CX0 6 T.Compare_names_as_told.f T.Compare_names_as_told.fd ["self"] (sp_names (clsOf T) 5 .cm) := ok_Compare_names_as_told T 5 |>.mono (by omega)
 refine T.Compare_names_in.fn.ok sc_Compare_names_in (fun vs H Q E h => ?_) (fun cdv A outer s H vs Q E hr h => ?_)
 ·obtain ⟨_, _, rfl, _⟩ := h
  rfl
 ·obtain ⟨c, v, rfl, hk, hd, h5, hC, q⟩ := h
  refine ⟨_, ((pss_one (ps_ret (pe_callB (call_sortedX rfl) (by rfl) T.b_sorted bt_sorted (pa_cons (pe_callTy (call_setX rfl) (by rfl) T.b_set bt_set (pa_cons (pe_mown0 T.l_Compare G_Compare_names_as_told (hr.mono (by omega)) (pv 0)) pa_nil)) pa_nil))))), ?_⟩
  obtain ⟨a1, d1, f1, e1, e2, e3⟩ := hC.at "names_as_told" nf_names
  rw [hk] at e2
  have nl := Nat.le_trans (names_len c) (Nat.pow_le_pow_right (n := 2) (by decide) h5)
  refine ⟨_, rfl, a1, d1, f1, e1, e2, e3, c, v, rfl, hk, hd, by omega, hC, fun l H1 hl s1 eL => ?_⟩
  refine ⟨l, c.names, rfl, SqL.of eL, by omega, fun z hz => ?_⟩
  have ol := once_len c.names []
  simp only [List.length_nil] at ol
  refine ⟨z, _, rfl, upd_same, by omega, fun u ms hu pm so => ?_⟩
  exact q u ms _ ((s1.trans (Same.new hz)).trans (Same.new hu)) pm so upd_same
theorem ok_And_names_in (T : Txt w K mg) : FnOk P w K mg base CX0 7 T.And_names_in.f T.And_names_in.fd ["self"] (sp_nin (clsOf T) 5 .an) := by
 have G_And_names_as_told : FnOk P w K mg base CX0 6 T.And_names_as_told.f T.And_names_as_told.fd ["self"] (sp_names (clsOf T) 5 .an) := st_And_names T (D_names T 4)
 refine T.And_names_in.fn.ok sc_And_names_in (fun vs H Q E h => ?_) (fun cdv A outer s H vs Q E hr h => ?_)
 ·obtain ⟨_, _, rfl, _⟩ := h
  rfl
 ·obtain ⟨c, v, rfl, hk, hd, h5, hC, q⟩ := h
  refine ⟨_, ((pss_one (ps_ret (pe_callB (call_sortedX rfl) (by rfl) T.b_sorted bt_sorted (pa_cons (pe_callTy (call_setX rfl) (by rfl) T.b_set bt_set (pa_cons (pe_mown0 T.l_And G_And_names_as_told (hr.mono (by omega)) (pv 0)) pa_nil)) pa_nil))))), ?_⟩
  obtain ⟨a1, d1, f1, e1, e2, e3⟩ := hC.at "names_as_told" nf_names
  rw [hk] at e2
  have nl := Nat.le_trans (names_len c) (Nat.pow_le_pow_right (n := 2) (by decide) h5)
  refine ⟨_, rfl, a1, d1, f1, e1, e2, e3, c, v, rfl, hk, hd, by omega, hC, fun l H1 hl s1 eL => ?_⟩
  refine ⟨l, c.names, rfl, SqL.of eL, by omega, fun z hz => ?_⟩
  have ol := once_len c.names []
  simp only [List.length_nil] at ol
  refine ⟨z, _, rfl, upd_same, by omega, fun u ms hu pm so => ?_⟩
  exact q u ms _ ((s1.trans (Same.new hz)).trans (Same.new hu)) pm so upd_same
theorem ok_Or_names_in (T : Txt w K mg) : FnOk P w K mg base CX0 7 T.Or_names_in.f T.Or_names_in.fd ["self"] (sp_nin (clsOf T) 5 .or) := by
 have G_Or_names_as_told : FnOk P w K mg base CX0 6 T.Or_names_as_told.f T.Or_names_as_told.fd ["self"] (sp_names (clsOf T) 5 .or) := st_Or_names T (D_names T 4)
 refine T.Or_names_in.fn.ok sc_Or_names_in (fun vs H Q E h => ?_) (fun cdv A outer s H vs Q E hr h => ?_)
 ·obtain ⟨_, _, rfl, _⟩ := h
  rfl
 ·obtain ⟨c, v, rfl, hk, hd, h5, hC, q⟩ := h
  refine ⟨_, ((pss_one (ps_ret (pe_callB (call_sortedX rfl) (by rfl) T.b_sorted bt_sorted (pa_cons (pe_callTy (call_setX rfl) (by rfl) T.b_set bt_set (pa_cons (pe_mown0 T.l_Or G_Or_names_as_told (hr.mono (by omega)) (pv 0)) pa_nil)) pa_nil))))), ?_⟩
  obtain ⟨a1, d1, f1, e1, e2, e3⟩ := hC.at "names_as_told" nf_names
  rw [hk] at e2
  have nl := Nat.le_trans (names_len c) (Nat.pow_le_pow_right (n := 2) (by decide) h5)
  refine ⟨_, rfl, a1, d1, f1, e1, e2, e3, c, v, rfl, hk, hd, by omega, hC, fun l H1 hl s1 eL => ?_⟩
  refine ⟨l, c.names, rfl, SqL.of eL, by omega, fun z hz => ?_⟩
  have ol := once_len c.names []
  simp only [List.length_nil] at ol
  refine ⟨z, _, rfl, upd_same, by omega, fun u ms hu pm so => ?_⟩
  exact q u ms _ ((s1.trans (Same.new hz)).trans (Same.new hu)) pm so upd_same
theorem ok_Not_names_in (T : Txt w K mg) : FnOk P w K mg base CX0 7 T.Not_names_in.f T.Not_names_in.fd ["self"] (sp_nin (clsOf T) 5 .nt) := by
 have G_Not_names_as_told : FnOk P w K mg base CX0 6 T.Not_names_as_told.f T.Not_names_as_told.fd ["self"] (sp_names (clsOf T) 5 .nt) := st_Not_names T (D_names T 4)
 refine T.Not_names_in.fn.ok sc_Not_names_in (fun vs H Q E h => ?_) (fun cdv A outer s H vs Q E hr h => ?_)
 ·obtain ⟨_, _, rfl, _⟩ := h
  rfl
 ·obtain ⟨c, v, rfl, hk, hd, h5, hC, q⟩ := h
  refine ⟨_, ((pss_one (ps_ret (pe_callB (call_sortedX rfl) (by rfl) T.b_sorted bt_sorted (pa_cons (pe_callTy (call_setX rfl) (by rfl) T.b_set bt_set (pa_cons (pe_mown0 T.l_Not G_Not_names_as_told (hr.mono (by omega)) (pv 0)) pa_nil)) pa_nil))))), ?_⟩
  obtain ⟨a1, d1, f1, e1, e2, e3⟩ := hC.at "names_as_told" nf_names
  rw [hk] at e2
  have nl := Nat.le_trans (names_len c) (Nat.pow_le_pow_right (n := 2) (by decide) h5)
  refine ⟨_, rfl, a1, d1, f1, e1, e2, e3, c, v, rfl, hk, hd, by omega, hC, fun l H1 hl s1 eL => ?_⟩
  refine ⟨l, c.names, rfl, SqL.of eL, by omega, fun z hz => ?_⟩
  have ol := once_len c.names []
  simp only [List.length_nil] at ol
  refine ⟨z, _, rfl, upd_same, by omega, fun u ms hu pm so => ?_⟩
  exact q u ms _ ((s1.trans (Same.new hz)).trans (Same.new hu)) pm so upd_same
theorem D_names_in (T : Txt w K mg) : Dy P w K mg base CX0 7 "names_in" ["self"] (clsOf T) (sp_nin (clsOf T) 5) := ⟨cls_all T, fun
 | .cm => ⟨_, _, T.Compare_names_in.me, ok_Compare_names_in T, T.Compare_names_in.bi⟩
 | .an => ⟨_, _, T.And_names_in.me, ok_And_names_in T, T.And_names_in.bi⟩
 | .or => ⟨_, _, T.Or_names_in.me, ok_Or_names_in T, T.Or_names_in.bi⟩
 | .nt => ⟨_, _, T.Not_names_in.me, ok_Not_names_in T, T.Not_names_in.bi⟩⟩
end
def mixV (c k : Int) : Int :=
 if 10 ^ 18 ≤ c ∧ 0 < c / 2 ^ (27 * k).toNat then Builtin.bitAnd (c / 2 ^ (27 * k).toNat) 134217727
 else ((((c % 1000000007 + 7919 * k) * 48271 % 2147483647) * ((c % 1000000007 + 7919 * k) * 48271 % 2147483647) % 2147483629) * ((((c % 1000000007 + 7919 * k) * 48271 % 2147483647) * ((c % 1000000007 + 7919 * k) * 48271 % 2147483647) % 2147483629) + 3) % 2147483587) / 8
theorem mix_nn (c k : Int) : 0 ≤ mixV c k := by
 unfold mixV
 split
 ·rename_i h
  rw [bitAnd_pp (by omega) (by decide)]
  exact Int.natCast_nonneg _
 ·exact Int.ediv_nonneg (Int.emod_nonneg _ (by decide)) (by decide)
def sp__law_cell (K : PySem.W.Frag) : Sp := fun vs H Q _ => ∃ (a : Addr) (ns : List Int) (k : Int), vs = [.ref a, .int k] ∧ SqL K H a (ns.map V.int) ∧ 0 ≤ k ∧ ∀ c, Q (.int c) H
def sp__law_mix : Sp := fun vs H Q _ => ∃ c k, vs = [.int c, .int k] ∧ 0 ≤ k ∧ k ≤ 1000 ∧ Q (.int (mixV c k)) H
def sp__law_numbers : Sp := fun vs H Q _ => ∃ c, vs = [.int c, .int 40] ∧ ∀ (l : Addr) (ns : List Int) (H' : Hp), H l = none → Same H H' → H' l = some (.lst (ns.map V.int)) → (∀ n ∈ ns, 0 ≤ n) → ns.length ≤ 40 → Q (.ref l) H'
def But (p : Addr) (H H' : Hp) : Prop := ∀ b o, b ≠ p → H b = some o → H' b = some o
theorem But.trans {p : Addr} {H H1 H2 : Hp} (a : But p H H1) (b : But p H1 H2) : But p H H2 := fun c o n h => b c o n (a c o n h)
theorem sbut {H H' : Hp} (s : Same H H') (p : Addr) : But p H H' := fun b o _ h => s b o h
theorem But.upd (p : Addr) (H : Hp) (o : HO) : But p H (upd H p o) := fun b u n h => by rw [upd_ne n]; exact h
def Nums (H : Hp) (p : Addr) (ns : List Int) : Prop := H p = some (.lst (ns.map V.int)) ∧ (∀ n ∈ ns, 0 ≤ n) ∧ ns.length ≤ 40
def sp__law_next : Sp := fun vs H Q _ => ∃ (p : Addr) (ns : List Int), vs = [.ref p] ∧ Nums H p ns ∧ ∀ (n : Int) (ms : List Int) (H' : Hp), 0 ≤ n → But p H H' → Nums H' p ms → Q (.int n) H'
theorem tup_ne {H : Hp} {a p : Addr} {xs ys : List V} (h : H a = some (.tup xs)) (g : H p = some (.lst ys)) : a ≠ p := ne_of h g (by intro z; cases z)
theorem flat_ints (ns : List Int) : (ns.map V.int).all flatV = true := by
 induction ns with
 | nil => rfl
 | cons n ns ih => rw [List.map_cons, List.all_cons, ih]; rfl
section
variable {P : Program} {w : World} {K : PySem.W.Frag} {mg : Str → Option Value} {base : Heap}
theorem ok__law_cell (T : Txt w K mg) : FnOk P w K mg base CX0 1 T._law_cell.f T._law_cell.fd ["_law_script", "_law_k"] (sp__law_cell K) := by
 refine T._law_cell.fn.ok sc__law_cell (fun vs H Q E h => ?_) (fun cdv A outer s H vs Q E hr h => ?_)
 ·obtain ⟨a, ns, k, rfl, _⟩ := h
  rfl
 ·obtain ⟨a, ns, kk, rfl, hS, h0, k⟩ := h
  refine ⟨_, ((pss_cons (ps_if (pt_cmpR op_lt (pv 1) (pe_callB (call_len_seqK (K := K) rfl) (by rfl) T.b_len bt_len (pa_cons (pv 0) pa_nil)) (nomark _)) (pss_one (ps_ret (pe_ix (ix_listK (K := K) rfl) (pv 0) (pv 1) (fun _ _ => rfl)))) pss_nil)
   (pss_one (ps_ret pe_int)))), ?_⟩
  refine ⟨_, rfl, _, rfl, _, _, rfl, .inl hS, _, _, rfl, rfl, _, rfl, ?_⟩
  refine ite2 (fun h1 => ?_) (fun h1 => ?_)
  ·have h1 := of_decide_eq_true h1
   rw [List.length_map] at h1
   exact ⟨_, rfl, _, rfl, _, _, _, _, rfl, rfl, hS, atI_ints h0 h1, k _⟩
  ·exact k _
theorem ok__law_mix (T : Txt w K mg) : FnOk P w K mg base CX0 1 T._law_mix.f T._law_mix.fd ["_law_cell_here", "_law_k"] sp__law_mix := by
 refine T._law_mix.fn.ok sc__law_mix (fun vs H Q E h => ?_) (fun cdv A outer s H vs Q E hr h => ?_)
 ·obtain ⟨c, k, rfl, _⟩ := h
  rfl
 ·obtain ⟨c, k, rfl, k0, k1, q⟩ := h
  unfold mixV at q
  refine ⟨_, ((pss_cons (ps_if (PW.pt (pw_and (pt_cmpR op_ge (pv 0) (pe_op op_pow pe_int pe_int) (nomark _)) (pw_and1 (pt_cmpR op_gt (pe_op op_shr (pv 0) (pe_op op_mul pe_int (pv 1))) pe_int (nomark _))))) (pss_one (ps_ret (pe_op op_and (pe_op op_shr (pv 0) (pe_op op_mul pe_int (pv 1))) pe_int))) pss_nil)
   (pss_cons (ps_set (i := 2) sc__law_mix.nd rfl (Or.inl rfl) (pe_op op_mod (pe_op op_mul (pe_op op_add (pe_op op_mod (pv 0) pe_int) (pe_op op_mul pe_int (pv 1))) pe_int) pe_int))
   (pss_cons (ps_set (i := 2) sc__law_mix.nd rfl (Or.inl rfl) (pe_op op_mod (pe_op op_mul (pv 2) (pv 2)) pe_int))
   (pss_one (ps_ret (pe_op op_fdivB (pe_op op_mod (pe_op op_mul (pv 2) (pe_op op_add (pv 2) pe_int)) pe_int) pe_int))))))), ?_⟩
  refine ⟨_, rfl, _, _, rfl, rfl, ⟨by decide, by decide, by decide⟩, _, _, rfl, rfl, _, rfl, ?_⟩
  refine ite2 (fun z1 => ?_) (fun z1 => ?_)
  ·have z1 : (10 : Int) ^ 18 ≤ c := of_decide_eq_true z1
   refine ⟨_, rfl, _, rfl, _, _, rfl, rfl, .inl ⟨by decide, by decide⟩, _, _, rfl, rfl, (show 0 ≤ 27 * k by omega), _, _, rfl, rfl, _, rfl, ?_⟩
   refine ite2 (fun z2 => ?_) (fun z2 => ?_)
   ·have z2 : 0 < c / 2 ^ (27 * k).toNat := of_decide_eq_true z2
    rw [if_pos ⟨z1, z2⟩] at q
    exact ⟨_, rfl, _, rfl, _, _, rfl, rfl, .inl ⟨by decide, by decide⟩, _, _, rfl, rfl, (show 0 ≤ 27 * k by omega), _, _, rfl, rfl, q⟩
   have z2 : ¬ 0 < c / 2 ^ (27 * k).toNat := of_decide_eq_false (by simpa using z2)
   rw [if_neg (fun z => z2 z.2)] at q
   refine ⟨_, rfl, _, _, rfl, rfl, (show (0 : Int) < 1000000007 by decide), _, rfl, _, _, rfl, rfl, .inl ⟨by decide, by decide⟩, _, _, rfl, rfl, _, _, rfl, rfl, .inr ⟨by decide, by decide⟩, _, _, rfl, rfl, (show (0 : Int) < 2147483647 by decide), ?_⟩
   have b0 : 0 ≤ (c % 1000000007 + 7919 * k) * 48271 % 2147483647 := Int.emod_nonneg _ (by decide)
   have b1 : (c % 1000000007 + 7919 * k) * 48271 % 2147483647 < 2147483647 := Int.emod_lt_of_pos _ (by decide)
   dsimp only
   generalize (c % 1000000007 + 7919 * k) * 48271 % 2147483647 = X at b0 b1 q ⊢
   refine ⟨_, rfl, _, rfl, _, _, rfl, rfl, .inl ⟨by omega, by omega⟩, _, _, rfl, rfl, (show (0 : Int) < 2147483629 by decide), ?_⟩
   have d0 : 0 ≤ X * X % 2147483629 := Int.emod_nonneg _ (by decide)
   have d1 : X * X % 2147483629 < 2147483629 := Int.emod_lt_of_pos _ (by decide)
   dsimp only
   generalize X * X % 2147483629 = Y at d0 d1 q ⊢
   exact ⟨_, rfl, _, rfl, _, _, rfl, rfl, _, _, rfl, rfl, .inl ⟨by omega, by omega⟩, _, _, rfl, rfl, (show (0 : Int) < 2147483587 by decide), _, _, rfl, rfl, ⟨by decide, by decide⟩, q⟩
  ·have z1 : ¬ (10 : Int) ^ 18 ≤ c := of_decide_eq_false (by simpa using z1)
   rw [if_neg (fun z => z1 z.1)] at q
   refine iteF ?_
   refine ⟨_, rfl, _, _, rfl, rfl, (show (0 : Int) < 1000000007 by decide), _, rfl, _, _, rfl, rfl, .inl ⟨by decide, by decide⟩, _, _, rfl, rfl, _, _, rfl, rfl, .inr ⟨by decide, by decide⟩, _, _, rfl, rfl, (show (0 : Int) < 2147483647 by decide), ?_⟩
   have b0 : 0 ≤ (c % 1000000007 + 7919 * k) * 48271 % 2147483647 := Int.emod_nonneg _ (by decide)
   have b1 : (c % 1000000007 + 7919 * k) * 48271 % 2147483647 < 2147483647 := Int.emod_lt_of_pos _ (by decide)
   dsimp only
   generalize (c % 1000000007 + 7919 * k) * 48271 % 2147483647 = X at b0 b1 q ⊢
   refine ⟨_, rfl, _, rfl, _, _, rfl, rfl, .inl ⟨by omega, by omega⟩, _, _, rfl, rfl, (show (0 : Int) < 2147483629 by decide), ?_⟩
   have d0 : 0 ≤ X * X % 2147483629 := Int.emod_nonneg _ (by decide)
   have d1 : X * X % 2147483629 < 2147483629 := Int.emod_lt_of_pos _ (by decide)
   dsimp only
   generalize X * X % 2147483629 = Y at d0 d1 q ⊢
   exact ⟨_, rfl, _, rfl, _, _, rfl, rfl, _, _, rfl, rfl, .inl ⟨by omega, by omega⟩, _, _, rfl, rfl, (show (0 : Int) < 2147483587 by decide), _, _, rfl, rfl, ⟨by decide, by decide⟩, q⟩
theorem ok__law_numbers (T : Txt w K mg) : FnOk P w K mg base CX0 2 T._law_numbers.f T._law_numbers.fd ["_law_cell_here", "_law_many"] sp__law_numbers := by
 have G__law_mix : FnOk P w K mg base CX0 1 T._law_mix.f T._law_mix.fd _ _ := ok__law_mix T
 refine T._law_numbers.fn.ok sc__law_numbers (fun vs H Q E h => ?_) (fun cdv A outer s H vs Q E hr h => ?_)
 ·obtain ⟨c, rfl, _⟩ := h
  rfl
 ·obtain ⟨c, rfl, q⟩ := h
  refine ⟨_, ((pss_one (ps_ret (pe_comp (N := ["_law_k", "_law_cell_here"]) (own := 1) (caps := [0]) rfl (by kernel_rfl) (by kernel_rfl) (pi_range1 rfl T.b_range (pa_cons (pv 1) pa_nil)) (fun _ _ _ _ _ => pg_name (i := 0) (show List.Nodup (["_law_k", "_law_cell_here"] : List Str) by decide +kernel) rfl (Or.inl rfl)) (fun _ _ _ _ _ => pts_nil) (fun _ _ _ _ _ => (pe_own G__law_mix (hr.mono (by omega)) rfl (pa_cons (pv 1) (pa_cons (pv 0) pa_nil)))))))), ?_⟩
  refine ⟨_, rfl, _, rfl, by decide, by decide, fun D hD => ?_⟩
  refine comp_by (J := Itr 0 40) 40 (fun j τ H3 => ∃ (v : Option V) (ns : List Int), τ = [v, some (.int c)] ∧ Same H H3 ∧ H3 D = some (.lst (ns.map V.int)) ∧ ns.length = j ∧ ∀ n ∈ ns, 0 ≤ n)
   ?_ (fun j τ H3 hj _ => hj) (fun τ H3 _ => Nat.le_refl _) ?_ ?_
  ·exact ⟨none, [], rfl, Same.new hD, upd_same, rfl, (fun _ z => nomatch z)⟩
  ·rintro j τ H3 y H4 hj ⟨v, ns, rfl, sm, hd, hl, hn⟩ ⟨rfl, rfl⟩
   refine ⟨_, rfl, _, rfl, c, _, rfl, by omega, by omega, _, hd, ?_, ?_⟩
   ·rw [List.length_map]; exact small_line1 (by omega)
   ·refine ⟨_, ns ++ [_], rfl, sm.upd hD, by rw [upd_same, List.map_append]; rfl, by simp [hl], fun g hg => ?_⟩
    rcases List.mem_append.mp hg with z | z
    ·exact hn g z
    ·rw [List.mem_singleton.mp z]
     exact mix_nn _ _
  ·rintro τ H3 ⟨v, ns, rfl, sm, hd, hl, hn⟩
   exact q D ns H3 hD sm hd hn (by omega)
theorem ok__law_next (T : Txt w K mg) : FnOk P w K mg base CX0 1 T._law_next.f T._law_next.fd ["_law_numbers_here"] sp__law_next := by
 refine T._law_next.fn.ok sc__law_next (fun vs H Q E h => ?_) (fun cdv A outer s H vs Q E hr h => ?_)
 ·obtain ⟨p, ns, rfl, _⟩ := h
  rfl
 ·obtain ⟨p, ns, rfl, hN, q⟩ := h
  have hu0 := hr.units0
  refine ⟨_, ((pss_cons (ps_if (pt_cmpR (op_eqLK (K := K) rfl hu0) (pv 0) (pe_lst pa_nil) (nomark _)) (pss_one (ps_ret pe_int)) pss_nil)
   (pss_one (ps_ret (pe_bmK (K := K) rfl PySem.F.plainAttrs_list PySem.F.slot_list_pop PySem.F.type_list_pop mt_popAt (pv 0) (pa_cons pe_int pa_nil)))))), ?_⟩
  refine ⟨_, rfl, small_line (show 0 ≤ 100000 by decide), fun e he => ?_⟩
  have se : Same H (upd H e (.lst [])) := Same.new he
  have hp := se _ _ hN.1
  cases ns with
  | nil =>
   refine ⟨p, e, [], [], rfl, rfl, SqL.of hp, SqL.of upd_same, rfl, rfl, _, rfl, iteT ?_⟩
   exact q 0 [] _ (by decide) (sbut se p) ⟨hp, hN.2⟩
  | cons n ns =>
   refine ⟨p, e, _, [], rfl, rfl, SqL.of hp, SqL.of upd_same, flat_ints _, rfl, _, rfl, iteF ?_⟩
   refine ⟨_, rfl, .inl ⟨rfl, _, SqL.of hp⟩, p, _, 0, 0, .int n, rfl, rfl, hp, by decide, by decide, ?_, rfl, ?_⟩
   ·exact seqIndex_of (by decide) (by rw [List.length_map, List.length_cons]; omega)
   ·refine q n ns _ (hN.2.1 n List.mem_cons_self) ((sbut se p).trans (But.upd _ _ _)) ⟨upd_same, fun m hm => hN.2.1 m (List.mem_cons_of_mem _ hm), ?_⟩
    have := hN.2.2
    rw [List.length_cons] at this
    omega
end
def lets : Str := "abcdefghijklmnopqrstuvwxyz"
def chr (g : Int) : Nat := lets.cps.toList.getD g.toNat 0
def wdl (c S Z : Int) (k : Nat) : List Nat := (List.range S.toNat).map fun (j : Nat) => chr ((mixV c (62 + j) + k * (if (j : Int) = Z then 1 else 0)) % 26)
def wd (c S Z : Int) (k : Nat) : Str := ⟨(wdl c S Z k).toArray⟩
structure Words (ws : List Str) : Prop where
 five : ws.length = 5
 ok : ∀ x ∈ ws, x.length ≤ 8 ∧ 46 ∉ x.cps.toList
 nd : ws.Nodup
def sp__law_words : Sp := fun vs H Q _ => ∃ c, vs = [.int c, .int 5] ∧ ∀ (L : Addr) (ws : List Str) (H' : Hp), H L = none → Same H H' → H' L = some (.lst (ws.map V.str)) → Words ws → Q (.ref L) H'
theorem lets_len : lets.cps.toList.length = 26 := by decide +kernel
theorem lets_inj : ∀ a < 26, ∀ b < 26, lets.cps.toList.getD a 0 = lets.cps.toList.getD b 0 → a = b := by decide +kernel
theorem lets_dot : ∀ a < 26, lets.cps.toList.getD a 0 ≠ 46 := by decide +kernel
theorem wd_len (c S Z : Int) (k : Nat) : (wd c S Z k).length = S.toNat := by
 show (wdl c S Z k).toArray.size = _
 rw [List.size_toArray, wdl, List.length_map, List.length_range]
theorem mod26 (x : Int) : 0 ≤ x % 26 ∧ x % 26 < 26 := ⟨Int.emod_nonneg _ (by decide), Int.emod_lt_of_pos _ (by decide)⟩
theorem wd_dot (c S Z : Int) (k : Nat) : 46 ∉ (wd c S Z k).cps.toList := by
 intro h
 have h : 46 ∈ wdl c S Z k := h
 obtain ⟨j, _, e⟩ := List.mem_map.mp h
 have := mod26 (mixV c (62 + j) + k * (if (j : Int) = Z then 1 else 0))
 exact lets_dot _ (by omega) e
theorem wd_inj {c S Z : Int} (h0 : 0 ≤ Z) (h1 : Z < S) {i j : Nat} (hi : i < 5) (hj : j < 5) (e : wd c S Z i = wd c S Z j) : i = j := by
 have e1 : wdl c S Z i = wdl c S Z j := by
  have := congrArg (fun s : Str => s.cps.toList) e
  simpa [wd] using this
 have e2 := congrArg (fun l => l[Z.toNat]?) e1
 have hz : Z.toNat < S.toNat := by omega
 have zz : ((Z.toNat : Nat) : Int) = Z := by omega
 simp only [wdl, List.getElem?_map, List.getElem?_range hz, Option.map_some, Option.some.injEq, zz, if_pos, Int.mul_one] at e2
 have a := mod26 (mixV c (62 + Z) + i)
 have b := mod26 (mixV c (62 + Z) + j)
 have := lets_inj ((mixV c (62 + Z) + i) % 26).toNat (by omega) ((mixV c (62 + Z) + j) % 26).toNat (by omega) e2
 omega
theorem words_plain {c S Z : Int} (h0 : 0 ≤ Z) (h1 : Z < S) (h8 : S ≤ 8) : Words ((List.range 5).map (wd c S Z)) := by
 refine ⟨by simp, fun x hx => ?_, ?_⟩
 ·obtain ⟨k, _, rfl⟩ := List.mem_map.mp hx
  exact ⟨by rw [wd_len]; omega, wd_dot c S Z k⟩
 ·refine List.pairwise_map.mpr (List.Pairwise.imp_of_mem (fun {a b} ha hb hab e => hab ?_) (List.nodup_range (n := 5)))
  exact wd_inj h0 h1 (List.mem_range.mp ha) (List.mem_range.mp hb) e
theorem a_len : ("a" : Str).length = 1 := by decide +kernel
theorem words_last {c S Z : Int} (h0 : 0 ≤ Z) (h1 : Z < S) (h8 : S < 8) : Words ((List.range 4).map (wd c S Z) ++ [wd c S Z 0 ++ "a"]) := by
 refine ⟨by simp, fun x hx => ?_, nodup_snoc.mpr ⟨?_, fun hx => ?_⟩⟩
 ·rcases List.mem_append.mp hx with hx | hx
  ·obtain ⟨k, _, rfl⟩ := List.mem_map.mp hx
   exact ⟨by rw [wd_len]; omega, wd_dot c S Z k⟩
  ·rw [List.mem_singleton.mp hx]
   refine ⟨by rw [app_len, wd_len, a_len]; omega, fun h => ?_⟩
   have h : 46 ∈ ((wd c S Z 0).cps ++ ("a" : Str).cps).toList := h
   rw [Array.toList_append] at h
   rcases List.mem_append.mp h with h | h
   ·exact wd_dot c S Z 0 h
   ·exact absurd h (by decide +kernel)
 ·refine List.pairwise_map.mpr (List.Pairwise.imp_of_mem (fun {a b} ha hb hab e => hab ?_) (List.nodup_range (n := 4)))
  exact wd_inj h0 h1 (by have := List.mem_range.mp ha; omega) (by have := List.mem_range.mp hb; omega) e
 ·obtain ⟨k, _, e⟩ := List.mem_map.mp hx
  have := congrArg Str.length e
  rw [wd_len, app_len, wd_len, a_len] at this
  omega
theorem str_snoc (l : List Nat) (c : Nat) : (⟨l.toArray⟩ : Str) ++ ⟨#[c]⟩ = ⟨(l ++ [c]).toArray⟩ := by
 show Str.mk (l.toArray ++ #[c]) = _
 simp
section
variable {P : Program} {w : World} {K : PySem.W.Frag} {mg : Str → Option Value} {base : Heap}
theorem ok__law_words (T : Txt w K mg) : FnOk P w K mg base CX0 2 T._law_words.f T._law_words.fd ["_law_cell_here", "_law_many"] sp__law_words := by
 have G__law_mix : FnOk P w K mg base CX0 1 T._law_mix.f T._law_mix.fd _ _ := ok__law_mix T
 refine T._law_words.fn.ok sc__law_words (fun vs H Q E h => ?_) (fun cdv A outer s H vs Q E hr h => ?_)
 ·obtain ⟨c, rfl, _⟩ := h
  rfl
 ·obtain ⟨c, rfl, q⟩ := h
  refine ⟨_, ((pss_cons (ps_set (i := 2) sc__law_words.nd rfl (Or.inl rfl) pe_str)
   (pss_cons (ps_set (i := 3) sc__law_words.nd rfl (Or.inl rfl) (pe_op op_add pe_int (pe_op op_mod (pe_own G__law_mix (hr.mono (by omega)) rfl (pa_cons (pv 0) (pa_cons pe_int pa_nil))) pe_int)))
   (pss_cons (ps_set (i := 4) sc__law_words.nd rfl (Or.inl rfl) (pe_op op_mod (pe_own G__law_mix (hr.mono (by omega)) rfl (pa_cons (pv 0) (pa_cons pe_int pa_nil))) (pv 3)))
   (pss_cons (ps_set (i := 5) sc__law_words.nd rfl (Or.inl rfl) (pe_lst pa_nil))
   (pss_cons (ps_for PassesOwn.never rfl (pi_range1 rfl T.b_range (pa_cons (pv 1) pa_nil)) (pg_name (i := 6) sc__law_words.nd rfl (Or.inl rfl)) (pss_cons (ps_set (i := 7) sc__law_words.nd rfl (Or.inl rfl) pe_str)
   (pss_cons (ps_for PassesOwn.never rfl (pi_range1 rfl T.b_range (pa_cons (pv 3) pa_nil)) (pg_name (i := 8) sc__law_words.nd rfl (Or.inl rfl)) (pss_one (ps_set (i := 7) sc__law_words.nd rfl (Or.inl rfl) (pe_op op_add_str (pv 7) (pe_ix ix_str (pv 2) (pe_op op_mod (pe_op op_add (pe_own G__law_mix (hr.mono (by omega)) rfl (pa_cons (pv 0) (pa_cons (pe_op op_add pe_int (pv 8)) pa_nil))) (pe_op op_mul (pv 6) (pe_callTy call_int1 (by rfl) T.b_int bt_int (pa_cons (pe_cmpR op_eq (pv 8) (pv 4) (nomark _)) pa_nil)))) pe_int) (fun _ _ => rfl))))))
   (pss_one (ps_expr (pe_bmK (K := K) rfl PySem.F.plainAttrs_list PySem.F.slot_list_append PySem.F.type_list_append mt_append (pv 5) (pa_cons (pv 7) pa_nil)))))))
   (pss_cons (ps_if (PW.pt (pw_and (pt_cmpR op_lt (pv 3) pe_int (nomark _)) (pw_and1 (pt_cmpR op_eq (pe_op op_mod (pe_own G__law_mix (hr.mono (by omega)) rfl (pa_cons (pv 0) (pa_cons pe_int pa_nil))) pe_int) pe_int (nomark _))))) (pss_one (ps_asg (pe_op op_add_str (pe_ix (ix_listK (K := K) rfl) (pv 5) pe_int (fun _ _ => rfl)) pe_str) (pg_sub (pv 5) (pe_op op_sub (pv 1) pe_int) set_list))) pss_nil)
   (pss_one (ps_ret (pv 5)))))))))), ?_⟩
  refine ⟨_, rfl, c, 60, rfl, by decide, by decide, _, _, rfl, rfl, (show (0 : Int) < 8 by decide), _, _, rfl, rfl, ?_⟩
  have s0 : 1 ≤ 1 + mixV c 60 % 8 := by have := Int.emod_nonneg (mixV c 60) (show (8 : Int) ≠ 0 by decide); omega
  have s1 : 1 + mixV c 60 % 8 ≤ 8 := by have := Int.emod_lt_of_pos (mixV c 60) (show (0 : Int) < 8 by decide); omega
  dsimp only
  generalize 1 + mixV c 60 % 8 = S at s0 s1 ⊢
  refine ⟨_, rfl, c, 61, rfl, by decide, by decide, _, rfl, _, _, rfl, rfl, (show 0 < S by omega), ?_⟩
  have z0 : 0 ≤ mixV c 61 % S := Int.emod_nonneg _ (by omega)
  have z1 : mixV c 61 % S < S := Int.emod_lt_of_pos _ (by omega)
  dsimp only
  generalize mixV c 61 % S = Z at z0 z1 ⊢
  refine ⟨small_line (show 0 ≤ 100000 by decide), fun D hD => ?_⟩
  refine ⟨_, rfl, _, rfl, by decide, by decide, for_range (lo := 0) (n := 5) (fun i σ H2 => ∃ (v6 v7 v8 : Option V), σ = [some (.int c), some (.int 5), some (.str lets), some (.int S), some (.int Z), some (.ref D), v6, v7, v8] ∧ Same H H2 ∧ H2 D = some (.lst (((List.range i).map (wd c S Z)).map V.str)))
   ⟨none, none, none, rfl, Same.new hD, upd_same⟩ ?_ ?_⟩
  ·rintro i σ H2 hi ⟨v6, v7, v8, rfl, sm, hd⟩
   refine ⟨_, rfl, _, rfl, by omega, by omega, for_range (lo := 0) (n := S.toNat) (fun j σ H3 => ∃ (v8 : Option V), σ = [some (.int c), some (.int 5), some (.str lets), some (.int S), some (.int Z), some (.ref D), some (.int (0 + (i : Int))), some (.str ⟨((wdl c S Z i).take j).toArray⟩), v8] ∧ H3 = H2)
    ⟨v8, rfl, rfl⟩ ?_ ?_⟩
   ·rintro j σ H3 hj ⟨v8, rfl, rfl⟩
    have m26 := mod26 (mixV c (62 + (0 + (j : Int))) + (0 + (i : Int)) * (if decide (V.int (0 + (j : Int)) = V.int Z) = true then 1 else 0))
    refine ⟨_, rfl, _, rfl, _, rfl, _, rfl, _, _, rfl, rfl, c, _, rfl, by omega, by omega, _, rfl, _, rfl, _, rfl, rfl, .inr ⟨_, rfl, _, _, rfl, rfl, .inl ⟨by omega, by omega⟩, _, _, rfl, rfl, _, _, rfl, rfl, (show (0 : Int) < 26 by decide), ?_⟩⟩
    refine ⟨_, _, _, rfl, rfl, small_line (by decide +kernel), atI_nats m26.1 (by rw [lets_len]; exact m26.2), _, _, rfl, rfl, ?_, ?_⟩
    ·refine small_line ?_
     show (List.take j (wdl c S Z i)).toArray.size + 1 ≤ 100000
     rw [List.size_toArray, List.length_take]
     omega
    ·refine ⟨some (.int (0 + (j : Int))), ?_, rfl⟩
     have lt : j < (wdl c S Z i).length := by rw [wdl, List.length_map, List.length_range]; exact hj
     rw [str_snoc, List.take_succ_eq_append_getElem lt]
     have e : (wdl c S Z i)[j] = lets.cps.toList.getD ((mixV c (62 + (0 + (j : Int))) + (0 + (i : Int)) * (if decide (V.int (0 + (j : Int)) = V.int Z) = true then 1 else 0)) % 26).toNat 0 := by
      simp only [wdl, List.getElem_map, List.getElem_range, chr, Int.zero_add]
      congr 3
      by_cases h : (j : Int) = Z
      ·simp [h]
      ·simp [h]
     rw [e]
     rfl
   ·rintro σ H3 ⟨v8, rfl, rfl⟩
    rw [List.take_of_length_le (by rw [wdl, List.length_map, List.length_range]; exact Nat.le_refl _)]
    refine ⟨_, rfl, .inl ⟨rfl, _, SqL.of hd⟩, _, rfl, D, _, _, rfl, rfl, hd, ?_, ?_⟩
    ·rw [List.length_map, List.length_map, List.length_range]; exact small_line1 (by omega)
    ·refine ⟨_, _, _, rfl, sm.upd hD, ?_⟩
     rw [upd_same, List.range_succ, List.map_append, List.map_append]
     rfl
  ·rintro σ H2 ⟨v6, v7, v8, rfl, sm, hd⟩
   refine ⟨_, rfl, _, _, rfl, rfl, _, rfl, ite2 (fun z => ?_) (fun z => ?_)⟩
   ·have z : S < 8 := of_decide_eq_true z
    refine ⟨_, rfl, c, 59, rfl, by decide, by decide, _, _, rfl, rfl, (show (0 : Int) < 2 by decide), rfl, _, rfl, ite2 (fun _ => ?_) (fun _ => ?_)⟩
    ·refine ⟨_, rfl, D, _, _, _, rfl, rfl, SqL.of hd, rfl, _, _, rfl, rfl, ?_, _, rfl, _, rfl, _, _, rfl, rfl, D, _, _, 4, rfl, rfl, hd, ?_, ?_⟩
     ·refine small_line ?_
      rw [wd_len, a_len]
      omega
     ·rfl
     ·exact ⟨_, rfl, q D _ _ hD (sm.upd hD) upd_same (words_last z0 z1 z)⟩
    ·exact ⟨_, rfl, q D _ H2 hD sm hd (words_plain z0 z1 s1)⟩
   ·exact iteF ⟨_, rfl, q D _ H2 hD sm hd (words_plain z0 z1 s1)⟩
end
abbrev Col := Str × Str
def ColsAt (H : Hp) (qs : List Addr) (cs : List Col) : Prop := Paired (fun (q : Addr) (c : Col) => H q = some (.tup [.str c.1, .str c.2])) qs cs
theorem ColsAt.same {H H' : Hp} {qs : List Addr} {cs : List Col} (h : ColsAt H qs cs) (s : Same H H') : ColsAt H' qs cs := by
 induction h with
 | nil => exact .nil
 | cons a _ ih => exact .cons (s _ _ a) ih
structure GoodCols (cs : List Col) : Prop where
 five : cs.length = 5
 ok : ∀ c ∈ cs, c.1.length ≤ 20 ∧ (c.2 = "number" ∨ c.2 = "word")
 nd : (cs.map (·.1)).Nodup
theorem cols_upd {H : Hp} {p : Addr} {xs : List V} {o : HO} : ∀ {qs : List Addr} {cs : List Col}, ColsAt H qs cs → H p = some (.lst xs) → ColsAt (upd H p o) qs cs
 | _, _, .nil, _ => .nil
 | _, _, .cons a t, h => .cons (by rw [upd_ne (tup_ne a h)]; exact a) (cols_upd t h)
theorem cols_snoc {H : Hp} {q : Addr} {c : Col} : ∀ {qs : List Addr} {cs : List Col}, ColsAt H qs cs → H q = some (.tup [.str c.1, .str c.2]) → ColsAt H (qs ++ [q]) (cs ++ [c])
 | _, _, .nil, h => .cons h .nil
 | _, _, .cons a t, h => .cons a (cols_snoc t h)
def sp__law_columns_here : Sp := fun vs H Q _ => ∃ c, vs = [.int c] ∧ ∀ (L : Addr) (qs : List Addr) (cs : List Col) (H' : Hp), H L = none → Same H H' → H' L = some (.lst (qs.map V.ref)) → ColsAt H' qs cs → GoodCols cs → Q (.ref L) H'
def base (x : Str) : List Nat := x.cps.toList.takeWhile (· ≠ 46)
theorem tw_self : ∀ {l : List Nat}, 46 ∉ l → l.takeWhile (· ≠ 46) = l
 | [], _ => rfl
 | c :: l, h => by
  have ne : c ≠ 46 := fun z => h (by rw [z]; exact List.mem_cons_self)
  rw [List.takeWhile_cons, if_pos (decide_eq_true ne), tw_self fun z => h (List.mem_cons_of_mem _ z)]
theorem base_dot {a x : Str} (h : 46 ∉ a.cps.toList) : base (a ++ ("." ++ x)) = a.cps.toList := by
 have e : (a ++ ("." ++ x)).cps.toList = a.cps.toList ++ 46 :: x.cps.toList := by
  show (a.cps ++ (("." : Str).cps ++ x.cps)).toList = _
  rw [Array.toList_append, Array.toList_append]
  rfl
 unfold base
 rw [e, List.takeWhile_append]
 have t : a.cps.toList.takeWhile (· ≠ 46) = a.cps.toList := tw_self h
 rw [t, if_pos rfl]
 simp
theorem base_self {a : Str} (h : 46 ∉ a.cps.toList) : base a = a.cps.toList := tw_self h
theorem str_ext {a b : Str} (h : a.cps.toList = b.cps.toList) : a = b := by
 obtain ⟨⟨a⟩⟩ := a
 obtain ⟨⟨b⟩⟩ := b
 have h : a = b := h
 rw [h]
def NmOf (a n : Str) : Prop := base n = a.cps.toList ∧ n.length ≤ 20
theorem dot_len : ("." : Str).length = 1 := by decide +kernel
theorem getD_memS {ws : List Str} {i : Nat} (h : i < ws.length) : ws.getD i Str.empty ∈ ws := by
 rw [List.getD_eq_getElem?_getD, List.getElem?_eq_getElem h]
 exact List.getElem_mem h
theorem good_of {ws : List Str} {cs : List Col} (W : Words ws) (h5 : cs.length = 5) (h : ∀ (j : Nat) (hj : j < cs.length), NmOf (ws.getD j Str.empty) cs[j].1 ∧ (cs[j].2 = "number" ∨ cs[j].2 = "word")) : GoodCols cs := by
 refine ⟨h5, fun c hc => ?_, ?_⟩
 ·obtain ⟨j, hj, rfl⟩ := List.mem_iff_getElem.mp hc
  exact ⟨(h j hj).1.2, (h j hj).2⟩
 ·refine List.pairwise_iff_getElem.mpr fun i j hi hj hij e => ?_
  rw [List.length_map] at hi hj
  rw [List.getElem_map, List.getElem_map] at e
  have a := (h i hi).1.1
  have b := (h j hj).1.1
  rw [e, b] at a
  have a := str_ext a
  have wi : i < ws.length := by rw [W.five]; omega
  have wj : j < ws.length := by rw [W.five]; omega
  rw [List.getD_eq_getElem?_getD, List.getD_eq_getElem?_getD, List.getElem?_eq_getElem wi, List.getElem?_eq_getElem wj] at a
  have := (List.getElem_inj (h₀ := wj) (h₁ := wi) W.nd).mp a
  omega
theorem emp_len : ("" : Str).length = 0 := by decide +kernel
theorem bit_nn (x : Int) (k : Nat) : 0 ≤ x / 2 ^ k % 2 ∧ x / 2 ^ k % 2 < 2 := ⟨Int.emod_nonneg _ (by decide), Int.emod_lt_of_pos _ (by decide)⟩
theorem two_cases {b : Int} (h : 0 ≤ b ∧ b < 2) : b.toNat = 0 ∨ b.toNat = 1 := by omega
section
variable {P : Program} {w : World} {K : PySem.W.Frag} {mg : Str → Option Value} {base : Heap}
theorem ok__law_columns_here (T : Txt w K mg) : FnOk P w K mg base CX0 3 T._law_columns_here.f T._law_columns_here.fd ["_law_cell_here"] sp__law_columns_here := by
 have G__law_mix : FnOk P w K mg base CX0 1 T._law_mix.f T._law_mix.fd _ _ := ok__law_mix T
 have G__law_words : FnOk P w K mg base CX0 2 T._law_words.f T._law_words.fd _ _ := ok__law_words T
 refine T._law_columns_here.fn.ok sc__law_columns_here (fun vs H Q E h => ?_) (fun cdv A outer s H vs Q E hr h => ?_)
 ·obtain ⟨c, rfl, _⟩ := h
  rfl
 ·obtain ⟨c, rfl, q⟩ := h
  refine ⟨_, ((pss_cons (ps_set (i := 1) sc__law_columns_here.nd rfl (Or.inl rfl) (pe_own G__law_words (hr.mono (by omega)) rfl (pa_cons (pv 0) (pa_cons pe_int pa_nil))))
   (pss_cons (ps_set (i := 2) sc__law_columns_here.nd rfl (Or.inl rfl) (pe_lst pa_nil))
   (pss_cons (ps_for PassesOwn.never rfl (pi_range1 rfl T.b_range (pa_cons pe_int pa_nil)) (pg_name (i := 3) sc__law_columns_here.nd rfl (Or.inl rfl)) (pss_cons (ps_set (i := 4) sc__law_columns_here.nd rfl (Or.inl rfl) (pe_op op_add_str (pe_ix (ix_listK (K := K) rfl) (pv 1) (pv 3) (fun _ _ => rfl)) (pe_ix (ix_listK (K := K) rfl) (pe_lst (pa_cons pe_str (pa_cons (pe_op op_add_str pe_str (pe_ix (ix_listK (K := K) rfl) (pv 1) (pe_op op_mod (pe_op op_add (pv 3) pe_int) pe_int) (fun _ _ => rfl))) pa_nil))) (pe_op op_mod (pe_op op_shr (pe_own G__law_mix (hr.mono (by omega)) rfl (pa_cons (pv 0) (pa_cons pe_int pa_nil))) (pv 3)) pe_int) (fun _ _ => rfl))))
   (pss_one (ps_expr (pe_bmK (K := K) rfl PySem.F.plainAttrs_list PySem.F.slot_list_append PySem.F.type_list_append mt_append (pv 2) (pa_cons (pe_tup (pa_cons (pv 4) (pa_cons (pe_ix (ix_listK (K := K) rfl) (pe_lst (pa_cons pe_str (pa_cons pe_str pa_nil))) (pe_op op_mod (pe_op op_shr (pe_own G__law_mix (hr.mono (by omega)) rfl (pa_cons (pv 0) (pa_cons pe_int pa_nil))) (pv 3)) pe_int) (fun _ _ => rfl)) pa_nil))) pa_nil))))))
   (pss_one (ps_ret (pv 2))))))), ?_⟩
  refine ⟨_, rfl, c, rfl, fun L ws H1 hL s1 eL W => ?_⟩
  refine ⟨small_line (show 0 ≤ 100000 by decide), fun D hD => ?_⟩
  have sD : Same H1 (upd H1 D (.lst [])) := Same.new hD
  have hD0 : H D = none := s1.free hD
  refine ⟨_, rfl, by decide, by decide, for_range (lo := 0) (n := 5) (fun i σ H2 => ∃ (v3 v4 : Option V) (qs : List Addr) (cs : List Col), σ = [some (.int c), some (.ref L), some (.ref D), v3, v4] ∧ Same H1 H2 ∧ H2 D = some (.lst (qs.map V.ref)) ∧ ColsAt H2 qs cs ∧ cs.length = i ∧ ∀ (j : Nat) (hj : j < cs.length), NmOf (ws.getD j Str.empty) cs[j].1 ∧ (cs[j].2 = "number" ∨ cs[j].2 = "word"))
   ⟨none, none, [], [], rfl, sD, upd_same, .nil, rfl, fun j hj => absurd hj (Nat.not_lt_zero _)⟩ ?_ ?_⟩
  ·rintro i σ H2 hi ⟨v3, v4, qs, cs, rfl, sm, hd, ca, hl, nm⟩
   have l5 := W.five
   have eL2 : H2 L = some (.lst (ws.map V.str)) := sm _ _ eL
   have i0 : (0 + (i : Int)) = (i : Int) := by omega
   have i1 : 0 ≤ ((0 + (i : Int)) + 1) % 5 ∧ ((0 + (i : Int)) + 1) % 5 < 5 := ⟨Int.emod_nonneg _ (by decide), Int.emod_lt_of_pos _ (by decide)⟩
   have m1 := W.ok _ (getD_memS (ws := ws) (i := i) (by omega))
   have m2 := W.ok _ (getD_memS (ws := ws) (i := (((0 + (i : Int)) + 1) % 5).toNat) (by omega))
   have b1 := bit_nn (mixV c 70) (0 + (i : Int)).toNat
   have b2 := bit_nn (mixV c 71) (0 + (i : Int)).toNat
   have e1 : atI (ws.map V.str) (0 + (i : Int)) = some (.str (ws.getD i Str.empty)) := by
    have := atI_strs (ys := ws) (i := (0 + (i : Int))) (by omega) (by omega)
    rw [show (0 + (i : Int)).toNat = i by omega] at this
    exact this
   have lenj : (["", "." ++ ws.getD (((0 + (i : Int)) + 1) % 5).toNat Str.empty] : List Str).length = 2 := rfl
   obtain ⟨xt, hxt, nx⟩ : ∃ xt : Str, atI (([("" : Str), "." ++ ws.getD (((0 + (i : Int)) + 1) % 5).toNat Str.empty] : List Str).map V.str) (mixV c 70 / 2 ^ (0 + (i : Int)).toNat % 2) = some (.str xt) ∧ xt.length ≤ 9 ∧ NmOf (ws.getD i Str.empty) (ws.getD i Str.empty ++ xt) := by
    refine ⟨_, atI_strs b1.1 (by rw [lenj]; exact b1.2), ?_⟩
    rcases two_cases b1 with z | z
    ·rw [z]
     refine ⟨by rw [show ([("" : Str), "." ++ ws.getD (((0 + (i : Int)) + 1) % 5).toNat Str.empty] : List Str).getD 0 Str.empty = "" from rfl, emp_len]; omega, ?_⟩
     have e : ws.getD i Str.empty ++ ([("" : Str), "." ++ ws.getD (((0 + (i : Int)) + 1) % 5).toNat Str.empty] : List Str).getD 0 Str.empty = ws.getD i Str.empty := str_ext (by
      show ((ws.getD i Str.empty).cps ++ ("" : Str).cps).toList = _
      rw [Array.toList_append, show ("" : Str).cps.toList = [] from rfl, List.append_nil])
     rw [e]
     exact ⟨base_self m1.2, by omega⟩
    ·rw [z]
     have e : ([("" : Str), "." ++ ws.getD (((0 + (i : Int)) + 1) % 5).toNat Str.empty] : List Str).getD 1 Str.empty = "." ++ ws.getD (((0 + (i : Int)) + 1) % 5).toNat Str.empty := rfl
     rw [e]
     exact ⟨by rw [app_len, dot_len]; omega, base_dot m1.2, by rw [app_len, app_len, dot_len]; omega⟩
   have e2 := atI_strs (ys := ws) (i := ((0 + (i : Int)) + 1) % 5) i1.1 (by omega)
   refine ⟨_, rfl, _, rfl, L, _, _, _, rfl, rfl, SqL.of eL2, e1, ?_⟩
   refine ⟨_, rfl, _, rfl, _, _, rfl, rfl, _, _, rfl, rfl, (show (0 : Int) < 5 by decide), L, _, _, _, rfl, rfl, SqL.of eL2, e2, _, _, rfl, rfl, small_line (by rw [dot_len]; omega), small_line (show 2 ≤ 100000 by decide), fun e he => ?_⟩
   refine ⟨_, rfl, c, 70, rfl, by decide, by decide, _, rfl, _, _, rfl, rfl, (show (0 : Int) ≤ 0 + (i : Int) by omega), _, _, rfl, rfl, (show (0 : Int) < 2 by decide), e, _, _, _, rfl, rfl, SqL.of upd_same, hxt, _, _, rfl, rfl, small_line (by have := m1.1; have := nx.1; omega), ?_⟩
   have s2 : Same H2 (upd H2 e (.lst [.str "", .str ("." ++ ws.getD (((0 + (i : Int)) + 1) % 5).toNat Str.empty)])) := Same.new he
   have hd2 := s2 _ _ hd
   obtain ⟨kd, hkd, kok⟩ : ∃ kd : Str, atI (([("number" : Str), "word"] : List Str).map V.str) (mixV c 71 / 2 ^ (0 + (i : Int)).toNat % 2) = some (.str kd) ∧ (kd = "number" ∨ kd = "word") := by
    refine ⟨_, atI_strs b2.1 (by rw [show ([("number" : Str), "word"] : List Str).length = 2 from rfl]; exact b2.2), ?_⟩
    rcases two_cases b2 with z | z
    ·rw [z]; exact .inl rfl
    ·rw [z]; exact .inr rfl
   refine ⟨_, rfl, .inl ⟨rfl, _, SqL.of hd2⟩, _, rfl, small_line (show 2 ≤ 100000 by decide), fun e' he' => ?_⟩
   refine ⟨_, rfl, c, 71, rfl, by decide, by decide, _, rfl, _, _, rfl, rfl, (show (0 : Int) ≤ 0 + (i : Int) by omega), _, _, rfl, rfl, (show (0 : Int) < 2 by decide), e', _, _, _, rfl, rfl, SqL.of upd_same, hkd, small_line (show 2 ≤ 100000 by decide), fun t ht => ?_⟩
   have s4 := (s2.trans (Same.new (o := .lst [.str "number", .str "word"]) he')).trans (Same.new (o := .tup [.str (ws.getD i Str.empty ++ xt), .str kd]) ht)
   have hd4 := s4 _ _ hd
   refine ⟨D, _, _, rfl, rfl, hd4, ?_, ?_⟩
   ·rw [List.length_map]
    have := Paired.length ca
    exact small_line1 (by omega)
   ·have tD : t ≠ D := fun z => by rw [z, (s2.trans (Same.new (o := .lst [.str "number", .str "word"]) he')) _ _ hd] at ht; cases ht
    refine ⟨_, _, qs ++ [t], cs ++ [(ws.getD i Str.empty ++ xt, kd)], rfl, (sm.trans s4).upd hD, by rw [upd_same, List.map_append]; rfl, ?_, by rw [List.length_append, hl]; rfl, fun j hj => ?_⟩
    ·refine cols_snoc ?_ (by rw [upd_ne tD]; exact upd_same)
     exact cols_upd (ca.same s4) hd4
    ·rw [List.length_append] at hj
     rcases Nat.lt_or_ge j cs.length with h | h
     ·rw [List.getElem_append_left h]
      exact nm j h
     ·have : j = cs.length := by simp only [List.length_cons, List.length_nil] at hj; omega
      subst this
      rw [List.getElem_append_right (Nat.le_refl _)]
      simp only [Nat.sub_self, List.getElem_cons_zero]
      rw [hl]
      exact ⟨nx.2, kok⟩
  ·rintro σ H2 ⟨v3, v4, qs, cs, rfl, sm, hd, ca, hl, nm⟩
   exact ⟨_, rfl, q D qs cs H2 hD0 (s1.trans sm) hd ca (good_of W hl nm)⟩
end
def goodAt (cs : List Col) (k : Str) : At → Prop
 | .col n => (n, k) ∈ cs
 | .num i => k = "number" ∧ i.natAbs ≤ 1000000000
 | .wrd x => k = "word" ∧ x.length ≤ 8
def goodC (cs : List Col) : Cn → Prop
 | .cmp l s r => okS s ∧ ∃ k, (l, k) ∈ cs ∧ goodAt cs k r
 | .an a b => goodC cs a ∧ goodC cs b
 | .or a b => goodC cs a ∧ goodC cs b
 | .nt a => goodC cs a
structure NmsAt (H : Hp) (L : Addr) (qs : List Addr) (cs : List Col) : Prop where
 l : H L = some (.lst (qs.map V.ref))
 c : ColsAt H qs cs
 g : GoodCols cs
theorem NmsAt.len {H : Hp} {L : Addr} {qs : List Addr} {cs : List Col} (h : NmsAt H L qs cs) : qs.length = 5 := (Paired.length h.c).trans h.g.five
theorem NmsAt.same {H H' : Hp} {L : Addr} {qs : List Addr} {cs : List Col} (h : NmsAt H L qs cs) (s : Same H H') : NmsAt H' L qs cs := ⟨s _ _ h.l, h.c.same s, h.g⟩
theorem cols_but {H H' : Hp} {p : Addr} {xs : List V} (hp : H p = some (.lst xs)) (b : But p H H') : ∀ {qs : List Addr} {cs : List Col}, ColsAt H qs cs → ColsAt H' qs cs
 | _, _, .nil => .nil
 | _, _, .cons a t => .cons (b _ _ (tup_ne a hp) a) (cols_but hp b t)
theorem NmsAt.but {H H' : Hp} {L p : Addr} {qs : List Addr} {cs : List Col} {ns : List Int} (h : NmsAt H L qs cs) (hN : Nums H p ns) (b : But p H H') : NmsAt H' L qs cs := by
 refine ⟨b _ _ (fun z => ?_) h.l, cols_but hN.1 b h.c, h.g⟩
 have e := h.l
 rw [z, hN.1] at e
 have l5 := h.len
 injection e with e
 injection e with e
 match qs, ns, l5, e with
 | q :: qs, [], _, e => cases e
 | q :: qs, n :: ns, _, e => cases e
theorem Tld.but {H H' : Hp} {p : Addr} {xs : List V} (hp : H p = some (.lst xs)) (b : But p H H') : ∀ {c : Cn} {v : V}, Tld H c v → Tld H' c v
 | .cmp _ _ _, _, ⟨a, d, e, h, t⟩ => ⟨a, d, e, b _ _ (tup_ne h hp) h, b _ _ (tup_ne t hp) t⟩
 | .an _ _, _, ⟨a, x, y, e, h, t, u⟩ => ⟨a, x, y, e, b _ _ (tup_ne h hp) h, Tld.but hp b t, Tld.but hp b u⟩
 | .or _ _, _, ⟨a, x, y, e, h, t, u⟩ => ⟨a, x, y, e, b _ _ (tup_ne h hp) h, Tld.but hp b t, Tld.but hp b u⟩
 | .nt _, _, ⟨a, x, e, h, t⟩ => ⟨a, x, e, b _ _ (tup_ne h hp) h, Tld.but hp b t⟩
theorem Nums.same {H H' : Hp} {p : Addr} {ns : List Int} (h : Nums H p ns) (s : Same H H') : Nums H' p ns := ⟨s _ _ h.1, h.2⟩
def sp__law_atom : Sp := fun vs H Q _ => ∃ (p L : Addr) (k : Str) (ns : List Int) (qs : List Addr) (cs : List Col), vs = [.ref p, .ref L, .str k] ∧ Nums H p ns ∧ NmsAt H L qs cs ∧ (k = "number" ∨ k = "word") ∧
 ∀ (b : Addr) (r : At) (ms : List Int) (H' : Hp), But p H H' → Nums H' p ms → AtT H' r b → goodAt cs k r → Q (.ref b) H'
def sp__law_compare : Sp := fun vs H Q _ => ∃ (p L : Addr) (ns : List Int) (qs : List Addr) (cs : List Col), vs = [.ref p, .ref L] ∧ Nums H p ns ∧ NmsAt H L qs cs ∧
 ∀ (v : V) (c : Cn) (ms : List Int) (H' : Hp), But p H H' → Nums H' p ms → Tld H' c v → goodC cs c → c.dp = 1 → Q v H'
def sp__law_cond (d : Nat) : Sp := fun vs H Q _ => ∃ (p L : Addr) (e : Nat) (ns : List Int) (qs : List Addr) (cs : List Col), vs = [.ref p, .ref L, .int e] ∧ 1 ≤ e ∧ e ≤ d ∧ Nums H p ns ∧ NmsAt H L qs cs ∧
 ∀ (v : V) (c : Cn) (ms : List Int) (H' : Hp), But p H H' → Nums H' p ms → Tld H' c v → goodC cs c → c.dp ≤ e → Q v H'
theorem flat_strs (ys : List Str) : (ys.map V.str).all flatV = true := by
 induction ys with
 | nil => rfl
 | cons n ns ih => rw [List.map_cons, List.all_cons, ih]; rfl
theorem emod_in {x : Int} {n : Nat} (h : 0 < n) : 0 ≤ x % (n : Int) ∧ x % (n : Int) < n := ⟨Int.emod_nonneg _ (by omega), Int.emod_lt_of_pos _ (by omega)⟩
theorem row_ints {x : V} (h : x ∈ ([.int 0, .int 1, .int 2, .int 3, .int (-1), .int (10 ^ (9 : Int).toNat), .int (-(10 ^ (9 : Int).toNat)), .int 70] : List V)) : ∃ i : Int, x = .int i ∧ i.natAbs ≤ 1000000000 := by
 simp only [List.mem_cons, List.not_mem_nil, or_false] at h
 rcases h with rfl | rfl | rfl | rfl | rfl | rfl | rfl | rfl <;> exact ⟨_, rfl, by decide⟩
theorem row_strs {x : V} (h : x ∈ ([.str "a", .str "b", .str "ab", .str "not", .str "zzzzzzzz"] : List V)) : ∃ y : Str, x = .str y ∧ y.length ≤ 8 := by
 simp only [List.mem_cons, List.not_mem_nil, or_false] at h
 rcases h with rfl | rfl | rfl | rfl | rfl <;> exact ⟨_, rfl, by decide +kernel⟩
theorem row_signs {x : V} (h : x ∈ ([.str "=", .str "<>", .str "<", .str "<=", .str ">", .str ">="] : List V)) : ∃ y : Str, x = .str y ∧ okS y := by
 simp only [List.mem_cons, List.not_mem_nil, or_false] at h
 unfold okS
 rcases h with rfl | rfl | rfl | rfl | rfl | rfl <;> exact ⟨_, rfl, by simp⟩
section
variable {P : Program} {w : World} {K : PySem.W.Frag} {mg : Str → Option Value} {base : Heap}
theorem ok__law_atom (T : Txt w K mg) : FnOk P w K mg base CX0 2 T._law_atom.f T._law_atom.fd ["_law_numbers_here", "_law_names", "_law_kind"] sp__law_atom := by
 have G__law_next : FnOk P w K mg base CX0 1 T._law_next.f T._law_next.fd _ _ := ok__law_next T
 refine T._law_atom.fn.ok sc__law_atom (fun vs H Q E h => ?_) (fun cdv A outer s H vs Q E hr h => ?_)
 ·obtain ⟨_, _, _, _, _, _, rfl, _⟩ := h
  rfl
 ·obtain ⟨p, L, k, ns, qs, cs, rfl, hN, hL, kd, q⟩ := h
  have hu0 := hr.units0
  refine ⟨_, ((pss_cons (ps_set (i := 3) sc__law_atom.nd rfl (Or.inl rfl) (pe_own G__law_next (hr.mono (by omega)) rfl (pa_cons (pv 0) pa_nil)))
   (pss_cons (ps_setC (i := 4) sc__law_atom.nd rfl (Or.inl rfl) (N := ["_law_name", "_law_other", "_law_kind"]) (own := 2) (caps := [2]) rfl (by kernel_rfl) (by kernel_rfl) (pi_listK (K := K) rfl (pv 1)) (fun _ _ _ _ _ => (pg_tupK (K := K) (n := 2) rfl rfl (pgs_cons (pg_name (i := 0) (show List.Nodup (["_law_name", "_law_other", "_law_kind"] : List Str) by decide +kernel) rfl (Or.inl rfl)) (pgs_cons (pg_name (i := 1) (show List.Nodup (["_law_name", "_law_other", "_law_kind"] : List Str) by decide +kernel) rfl (Or.inl rfl)) pgs_nil)))) (fun _ _ _ _ _ => (pts_one (pt_cmpR op_eq (pv 1) (pv 2) (nomark _)))) (fun _ _ _ _ _ => (pv 0)))
   (pss_cons (ps_if (PW.pt (pw_and (pt_cmpR op_eq (pe_op op_mod (pv 3) pe_int) pe_int (nomark _)) (pw_and1 (pt_cmpR (op_neLK (K := K) rfl hu0) (pv 4) (pe_lst pa_nil) (nomark _))))) (pss_one (ps_ret (pe_tup (pa_cons pe_str (pa_cons (pe_ix (ix_listK (K := K) rfl) (pv 4) (pe_op op_mod (pe_op op_fdivB (pv 3) pe_int) (pe_callB (call_len_seqK (K := K) rfl) (by rfl) T.b_len bt_len (pa_cons (pv 4) pa_nil))) (fun _ _ => rfl)) pa_nil))))) pss_nil)
   (pss_cons (ps_if (pt_cmpR op_eq (pv 2) pe_str (nomark _)) (pss_one (ps_ret (pe_tup (pa_cons pe_str (pa_cons (pe_ix (ix_listK (K := K) rfl) (pe_lst (pa_cons pe_str (pa_cons pe_str (pa_cons pe_str (pa_cons pe_str (pa_cons pe_str pa_nil)))))) (pe_op op_mod (pe_op op_fdivB (pv 3) pe_int) pe_int) (fun _ _ => rfl)) pa_nil))))) pss_nil)
   (pss_one (ps_ret (pe_tup (pa_cons pe_str (pa_cons (pe_ix (ix_listK (K := K) rfl) (pe_lst (pa_cons pe_int (pa_cons pe_int (pa_cons pe_int (pa_cons pe_int (pa_cons (pe_un un_neg pe_int) (pa_cons (pe_op op_pow pe_int pe_int) (pa_cons (pe_un un_neg (pe_op op_pow pe_int pe_int)) (pa_cons pe_int pa_nil))))))))) (pe_op op_mod (pe_op op_fdivB (pv 3) pe_int) pe_int) (fun _ _ => rfl)) pa_nil)))))))))), ?_⟩
  refine ⟨_, rfl, p, ns, rfl, hN, fun n ms H1 n0 b1 hN1 => ?_⟩
  have hL1 := hL.but hN b1
  have l5 := hL1.len
  refine ⟨_, rfl, L, rfl, ⟨_, SqL.of hL1.l⟩, fun D hD => ?_⟩
  refine comp_by (J := Itl K L) qs.length (fun j τ H3 => ∃ (v0 v1 : Option V) (ys : List Str), τ = [v0, v1, some (.str k)] ∧ Same H1 H3 ∧ H3 D = some (.lst (ys.map V.str)) ∧ ys.length ≤ j ∧ ∀ y ∈ ys, (y, k) ∈ cs)
   ?_ (fun j τ H3 hj ⟨_, _, _, _, sm, _⟩ => ⟨_, .ref qs[j], SqL.of (sm _ _ hL1.l), by rw [List.getElem?_map, List.getElem?_eq_getElem hj]; rfl⟩)
   (fun τ H3 ⟨_, _, _, _, sm, _⟩ => ⟨_, SqL.of (sm _ _ hL1.l), by rw [List.length_map]; exact Nat.le_refl _⟩) ?_ ?_
  ·exact ⟨none, none, [], rfl, Same.new hD, upd_same, Nat.le_refl _, (fun _ z => nomatch z)⟩
  ·rintro j τ H3 y H4 hj ⟨v0, v1, ys, rfl, sm, hd, hl, hy⟩ ⟨rfl, hy5⟩
   have e5 := hy5 _ (SqL.of (sm _ _ hL1.l))
   rw [List.getElem?_map, List.getElem?_eq_getElem hj] at e5
   cases (Option.some.inj e5)
   have hj2 : j < cs.length := by rw [← Paired.length hL1.c]; exact hj
   have tq := Paired.at hL1.c j hj hj2
   refine ⟨qs[j], _, rfl, SqT.of (sm _ _ tq), rfl, _, _, rfl, _, _, rfl, rfl, ?_⟩
   refine ⟨_, rfl, _, rfl, rfl, _, rfl, ite2 (fun z => ?_) (fun z => ?_)⟩
   ·have ek : cs[j].2 = k := by rw [str_dec] at z; exact of_decide_eq_true z
    refine ⟨_, rfl, _, hd, by rw [List.length_map]; exact small_line1 (by omega), _, _, ys ++ [cs[j].1], rfl, sm.upd hD, by rw [upd_same, List.map_append]; rfl, by rw [List.length_append]; simp only [List.length_cons, List.length_nil]; omega, fun y hym => ?_⟩
    rcases List.mem_append.mp hym with h | h
    ·exact hy y h
    ·rw [List.mem_singleton.mp h, ← ek]
     exact List.getElem_mem hj2
   ·exact ⟨_, _, ys, rfl, sm, hd, by omega, hy⟩
  ·rintro τ H3 ⟨v0, v1, ys, rfl, sm, hd, hl, hy⟩
   have fin : ∀ (b : Addr) (r : At) (H' : Hp), Same H3 H' → AtT H' r b → goodAt cs k r → Q (.ref b) H' := fun b r H' s' a g => q b r ms H' (b1.trans (sbut (sm.trans s') p)) (hN1.same (sm.trans s')) a g
   refine ⟨_, rfl, _, _, rfl, rfl, (show (0 : Int) < 3 by decide), rfl, _, rfl, ite2 (fun z => ?_) (fun z => ?_)⟩
   ·refine ⟨_, rfl, small_line (show 0 ≤ 100000 by decide), fun e0 he0 => ?_⟩
    have s0 : Same H3 (upd H3 e0 (.lst [])) := Same.new he0
    cases ys with
    | nil =>
     refine ⟨D, e0, [], [], rfl, rfl, SqL.of (s0 _ _ hd), SqL.of upd_same, rfl, rfl, _, rfl, iteF ?_⟩
     refine ⟨_, rfl, rfl, _, rfl, ite2 (fun z => ?_) (fun z => ?_)⟩
     ·have ek : k = "word" := by rw [str_dec] at z; exact of_decide_eq_true z
      refine ⟨small_line (show 5 ≤ 100000 by decide), fun e he => ?_⟩
      have m5 := emod_in (x := n / 3) (n := 5) (by decide)
      obtain ⟨x, ax, mx⟩ := atI_mem (xs := [.str "a", .str "b", .str "ab", .str "not", .str "zzzzzzzz"]) m5.1 m5.2
      obtain ⟨y, rfl, yl⟩ := row_strs mx
      refine ⟨_, rfl, _, _, rfl, rfl, ⟨by decide, by decide⟩, _, _, rfl, rfl, (show (0 : Int) < 5 by decide), e, _, _, _, rfl, rfl, SqL.of upd_same, ax, small_line (show 2 ≤ 100000 by decide), fun t ht => ?_⟩
      exact fin t (.wrd y) _ (s0.trans ((Same.new he).trans (Same.new ht))) upd_same ⟨ek, yl⟩
     ·have nw : ¬ k = "word" := by rw [str_dec] at z; exact of_decide_eq_false (by simpa using z)
      have ek : k = "number" := kd.resolve_right nw
      refine ⟨_, rfl, _, _, rfl, rfl, ⟨by decide, by decide, by decide⟩, _, _, rfl, rfl, ⟨by decide, by decide, by decide⟩, _, rfl, small_line (show 8 ≤ 100000 by decide), fun e he => ?_⟩
      have m8 := emod_in (x := n / 3) (n := 8) (by decide)
      obtain ⟨x, ax, mx⟩ := atI_mem (xs := [.int 0, .int 1, .int 2, .int 3, .int (-1), .int (10 ^ (9 : Int).toNat), .int (-(10 ^ (9 : Int).toNat)), .int 70]) m8.1 m8.2
      obtain ⟨y, rfl, yl⟩ := row_ints mx
      refine ⟨_, rfl, _, _, rfl, rfl, ⟨by decide, by decide⟩, _, _, rfl, rfl, (show (0 : Int) < 8 by decide), e, _, _, _, rfl, rfl, SqL.of upd_same, ax, small_line (show 2 ≤ 100000 by decide), fun t ht => ?_⟩
      exact fin t (.num y) _ (s0.trans ((Same.new he).trans (Same.new ht))) upd_same ⟨ek, yl⟩
    | cons y0 ys =>
     refine ⟨D, e0, _, [], rfl, rfl, SqL.of (s0 _ _ hd), SqL.of upd_same, flat_strs _, rfl, _, rfl, iteT ?_⟩
     have lp : 0 < ((y0 :: ys).map V.str).length := by rw [List.length_map, List.length_cons]; omega
     have me := emod_in (x := n / 3) lp
     obtain ⟨x, ax, mx⟩ := atI_mem me.1 me.2
     obtain ⟨y, my, rfl⟩ := List.mem_map.mp mx
     refine ⟨_, rfl, _, rfl, _, _, rfl, rfl, ⟨by decide, by decide⟩, _, rfl, _, _, rfl, .inl (SqL.of (s0 _ _ hd)), _, _, rfl, rfl, (show (0 : Int) < ((((y0 :: ys).map V.str).length : Nat) : Int) by omega), D, _, _, _, rfl, rfl, SqL.of (s0 _ _ hd), ax, small_line (show 2 ≤ 100000 by decide), fun t ht => ?_⟩
     exact fin t (.col y) _ (s0.trans (Same.new ht)) upd_same (hy y my)
   ·refine iteF ?_
    refine ⟨_, rfl, rfl, _, rfl, ite2 (fun z => ?_) (fun z => ?_)⟩
    ·have ek : k = "word" := by rw [str_dec] at z; exact of_decide_eq_true z
     refine ⟨small_line (show 5 ≤ 100000 by decide), fun e he => ?_⟩
     have m5 := emod_in (x := n / 3) (n := 5) (by decide)
     obtain ⟨x, ax, mx⟩ := atI_mem (xs := [.str "a", .str "b", .str "ab", .str "not", .str "zzzzzzzz"]) m5.1 m5.2
     obtain ⟨y, rfl, yl⟩ := row_strs mx
     refine ⟨_, rfl, _, _, rfl, rfl, ⟨by decide, by decide⟩, _, _, rfl, rfl, (show (0 : Int) < 5 by decide), e, _, _, _, rfl, rfl, SqL.of upd_same, ax, small_line (show 2 ≤ 100000 by decide), fun t ht => ?_⟩
     exact fin t (.wrd y) _ (id ((Same.new he).trans (Same.new ht))) upd_same ⟨ek, yl⟩
    ·have nw : ¬ k = "word" := by rw [str_dec] at z; exact of_decide_eq_false (by simpa using z)
     have ek : k = "number" := kd.resolve_right nw
     refine ⟨_, rfl, _, _, rfl, rfl, ⟨by decide, by decide, by decide⟩, _, _, rfl, rfl, ⟨by decide, by decide, by decide⟩, _, rfl, small_line (show 8 ≤ 100000 by decide), fun e he => ?_⟩
     have m8 := emod_in (x := n / 3) (n := 8) (by decide)
     obtain ⟨x, ax, mx⟩ := atI_mem (xs := [.int 0, .int 1, .int 2, .int 3, .int (-1), .int (10 ^ (9 : Int).toNat), .int (-(10 ^ (9 : Int).toNat)), .int 70]) m8.1 m8.2
     obtain ⟨y, rfl, yl⟩ := row_ints mx
     refine ⟨_, rfl, _, _, rfl, rfl, ⟨by decide, by decide⟩, _, _, rfl, rfl, (show (0 : Int) < 8 by decide), e, _, _, _, rfl, rfl, SqL.of upd_same, ax, small_line (show 2 ≤ 100000 by decide), fun t ht => ?_⟩
     exact fin t (.num y) _ (id ((Same.new he).trans (Same.new ht))) upd_same ⟨ek, yl⟩
theorem ok__law_compare (T : Txt w K mg) : FnOk P w K mg base CX0 3 T._law_compare.f T._law_compare.fd ["_law_numbers_here", "_law_names"] sp__law_compare := by
 have G__law_next : FnOk P w K mg base CX0 1 T._law_next.f T._law_next.fd _ _ := ok__law_next T
 have G__law_atom : FnOk P w K mg base CX0 2 T._law_atom.f T._law_atom.fd _ _ := ok__law_atom T
 refine T._law_compare.fn.ok sc__law_compare (fun vs H Q E h => ?_) (fun cdv A outer s H vs Q E hr h => ?_)
 ·obtain ⟨_, _, _, _, _, rfl, _⟩ := h
  rfl
 ·obtain ⟨p, L, ns, qs, cs, rfl, hN, hL, q⟩ := h
  refine ⟨_, ((pss_cons (ps_set (i := 2) sc__law_compare.nd rfl (Or.inl rfl) (pe_own G__law_next (hr.mono (by omega)) rfl (pa_cons (pv 0) pa_nil)))
   (pss_cons (ps_asg (pe_ix (ix_listK (K := K) rfl) (pv 1) (pe_op op_mod (pv 2) (pe_callB (call_len_seqK (K := K) rfl) (by rfl) T.b_len bt_len (pa_cons (pv 1) pa_nil))) (fun _ _ => rfl)) (pg_tupK (K := K) (n := 2) rfl rfl (pgs_cons ((pg_name (i := 3) sc__law_compare.nd rfl (Or.inl rfl))) (pgs_cons ((pg_name (i := 4) sc__law_compare.nd rfl (Or.inl rfl))) pgs_nil))))
   (pss_cons (ps_set (i := 5) sc__law_compare.nd rfl (Or.inl rfl) (pe_ix (ix_listK (K := K) rfl) (pe_lst (pa_cons pe_str (pa_cons pe_str (pa_cons pe_str (pa_cons pe_str (pa_cons pe_str (pa_cons pe_str pa_nil))))))) (pe_op op_mod (pe_op op_fdivB (pv 2) pe_int) pe_int) (fun _ _ => rfl)))
   (pss_one (ps_ret (pe_tup (pa_cons pe_str (pa_cons (pv 3) (pa_cons (pv 5) (pa_cons (pe_own G__law_atom (hr.mono (by omega)) rfl (pa_cons (pv 0) (pa_cons (pv 1) (pa_cons (pv 4) pa_nil)))) pa_nil))))))))))), ?_⟩
  refine ⟨_, rfl, p, ns, rfl, hN, fun n ms H1 n0 b1 hN1 => ?_⟩
  have hL1 := hL.but hN b1
  have l5 := hL1.len
  have lp : 0 < (qs.map V.ref).length := by rw [List.length_map]; omega
  have me := emod_in (x := n) lp
  have hj : (n % (((qs.map V.ref).length : Nat) : Int)).toNat < qs.length := by rw [List.length_map] at me ⊢; omega
  generalize hj0 : (n % (((qs.map V.ref).length : Nat) : Int)).toNat = j at hj
  have ax : atI (qs.map V.ref) (n % (((qs.map V.ref).length : Nat) : Int)) = some (.ref qs[j]) := atI_pos me.1 (by rw [hj0, List.getElem?_map, List.getElem?_eq_getElem hj]; rfl)
  have hj2 : j < cs.length := by rw [← Paired.length hL1.c]; exact hj
  have tq := Paired.at hL1.c j hj hj2
  refine ⟨_, rfl, _, rfl, _, rfl, _, _, rfl, .inl (SqL.of hL1.l), _, _, rfl, rfl, (show (0 : Int) < (((qs.map V.ref).length : Nat) : Int) by omega), L, _, _, _, rfl, rfl, SqL.of hL1.l, ax, ?_⟩
  refine ⟨qs[j], _, rfl, SqT.of tq, rfl, _, _, rfl, _, _, rfl, rfl, ?_⟩
  refine ⟨small_line (show 6 ≤ 100000 by decide), fun e he => ?_⟩
  have m6 := emod_in (x := n / 64) (n := 6) (by decide)
  obtain ⟨x, ax6, mx⟩ := atI_mem (xs := [.str "=", .str "<>", .str "<", .str "<=", .str ">", .str ">="]) m6.1 m6.2
  obtain ⟨sg, rfl, osg⟩ := row_signs mx
  refine ⟨_, rfl, _, _, rfl, rfl, ⟨by decide, by decide⟩, _, _, rfl, rfl, (show (0 : Int) < 6 by decide), e, _, _, _, rfl, rfl, SqL.of upd_same, ax6, ?_⟩
  have se : Same H1 (upd H1 e (.lst [.str "=", .str "<>", .str "<", .str "<=", .str ">", .str ">="])) := Same.new he
  have okc := hL.g.ok _ (List.getElem_mem hj2)
  refine ⟨_, rfl, _, rfl, _, rfl, _, rfl, _, rfl, p, L, cs[j].2, ms, qs, cs, rfl, hN1.same se, hL1.same se, okc.2, fun b r ms2 H2 b2 hN2 ar gr => ?_⟩
  refine ⟨small_line (show 4 ≤ 100000 by decide), fun t ht => ?_⟩
  have st : Same H2 (upd H2 t (.tup [.str "compare", .str cs[j].1, .str sg, .ref b])) := Same.new ht
  refine q _ (.cmp cs[j].1 sg r) ms2 _ ((b1.trans (sbut se p)).trans (b2.trans (sbut st p))) (hN2.same st) ⟨t, b, rfl, upd_same, ar.same st⟩ ⟨osg, cs[j].2, List.getElem_mem hj2, gr⟩ rfl
theorem st__law_cond (T : Txt w K mg) {d : Nat} (G__law_cond : FnOk P w K mg base CX0 (4 + d) T._law_cond.f T._law_cond.fd ["_law_numbers_here", "_law_names", "_law_deep"] (sp__law_cond d)) : FnOk P w K mg base CX0 (4 + d + 1) T._law_cond.f T._law_cond.fd ["_law_numbers_here", "_law_names", "_law_deep"] (sp__law_cond (d + 1)) := by
 have G__law_next : FnOk P w K mg base CX0 1 T._law_next.f T._law_next.fd _ _ := ok__law_next T
 have G__law_compare : FnOk P w K mg base CX0 3 T._law_compare.f T._law_compare.fd _ _ := ok__law_compare T
 refine T._law_cond.fn.ok sc__law_cond (fun vs H Q E h => ?_) (fun cdv A outer s H vs Q E hr h => ?_)
 ·obtain ⟨_, _, _, _, _, _, rfl, _⟩ := h
  rfl
 ·obtain ⟨p, L, e, ns, qs, cs, rfl, e1, ed, hN, hL, q⟩ := h
  refine ⟨_, ((pss_cons (ps_set (i := 3) sc__law_cond.nd rfl (Or.inl rfl) (pe_op op_mod (pe_own G__law_next (hr.mono (by omega)) rfl (pa_cons (pv 0) pa_nil)) pe_int))
   (pss_cons (ps_if (PW.pt (pw_or (pt_cmpR op_lt (pv 2) pe_int (nomark _)) (pw_or1 (pt_cmpR op_lt (pv 3) pe_int (nomark _))))) (pss_one (ps_ret (pe_own G__law_compare (hr.mono (by omega)) rfl (pa_cons (pv 0) (pa_cons (pv 1) pa_nil))))) pss_nil)
   (pss_cons (ps_set (i := 4) sc__law_cond.nd rfl (Or.inl rfl) (pe_own G__law_cond (hr.mono (by omega)) rfl (pa_cons (pv 0) (pa_cons (pv 1) (pa_cons (pe_op op_sub (pv 2) pe_int) pa_nil)))))
   (pss_cons (ps_if (pt_cmpR op_eq (pv 3) pe_int (nomark _)) (pss_one (ps_ret (pe_tup (pa_cons pe_str (pa_cons (pv 4) pa_nil))))) pss_nil)
   (pss_one (ps_ret (pe_tup (pa_cons (pe_ix (ix_listK (K := K) rfl) (pe_lst (pa_cons pe_str (pa_cons pe_str pa_nil))) (pe_op op_mod (pv 3) pe_int) (fun _ _ => rfl)) (pa_cons (pv 4) (pa_cons (pe_own G__law_cond (hr.mono (by omega)) rfl (pa_cons (pv 0) (pa_cons (pv 1) (pa_cons (pe_op op_sub (pv 2) pe_int) pa_nil)))) pa_nil))))))))))), ?_⟩
  refine ⟨_, rfl, p, ns, rfl, hN, fun n ms H1 n0 b1 hN1 => ?_⟩
  have hL1 := hL.but hN b1
  refine ⟨_, _, rfl, rfl, (show (0 : Int) < 7 by decide), ?_⟩
  dsimp only
  have comp : sp__law_compare [.ref p, .ref L] H1 Q E0 := ⟨p, L, ms, qs, cs, rfl, hN1, hL1, fun v c ms2 H2 b2 hN2 tc gc dc => q v c ms2 H2 (b1.trans b2) hN2 tc gc (by omega)⟩
  refine ⟨_, rfl, _, _, rfl, rfl, _, rfl, ite2 (fun _ => iteT ⟨_, rfl, _, rfl, comp⟩) (fun z1 => ?_)⟩
  have z1 : ¬ (e : Int) < 2 := of_decide_eq_false (by simpa using z1)
  refine ⟨_, rfl, _, _, rfl, rfl, _, rfl, ite2 (fun _ => ⟨_, rfl, _, rfl, comp⟩) (fun z2 => ?_)⟩
  have sub1 : ((e : Int) - 1) = ((e - 1 : Nat) : Int) := by omega
  refine ⟨_, rfl, _, rfl, _, rfl, _, _, rfl, rfl, p, L, e - 1, ms, qs, cs, (show [V.ref p, V.ref L, V.int ((e : Int) - 1)] = [V.ref p, V.ref L, V.int ((e - 1 : Nat) : Int)] by rw [sub1]), by omega, by omega, hN1, hL1, fun v1 c1 ms1 H2 b2 hN2 t1 g1 d1 => ?_⟩
  refine ⟨_, rfl, rfl, _, rfl, ite2 (fun _ => ?_) (fun _ => ?_)⟩
  ·refine ⟨_, rfl, small_line (show 2 ≤ 100000 by decide), fun t ht => ?_⟩
   have st : Same H2 (upd H2 t (.tup [.str "not", v1])) := Same.new ht
   exact q _ (.nt c1) ms1 _ ((b1.trans b2).trans (sbut st p)) (hN2.same st) ⟨t, v1, rfl, upd_same, t1.same st⟩ g1 (by simp only [Cn.dp]; omega)
  ·refine ⟨small_line (show 2 ≤ 100000 by decide), fun a ha => ?_⟩
   have sa : Same H2 (upd H2 a (.lst [.str "and", .str "or"])) := Same.new ha
   have m2 := emod_in (x := n % 7) (n := 2) (by decide)
   obtain ⟨x, ax, mx⟩ := atI_mem (xs := [.str "and", .str "or"]) m2.1 m2.2
   have hL2 := (hL1.but hN1 b2).same sa
   refine ⟨_, rfl, _, _, rfl, rfl, (show (0 : Int) < 2 by decide), a, _, _, _, rfl, rfl, SqL.of upd_same, ax, _, rfl, ?_⟩
   refine ⟨_, rfl, _, rfl, _, rfl, _, _, rfl, rfl, p, L, e - 1, ms1, qs, cs, (show [V.ref p, V.ref L, V.int ((e : Int) - 1)] = [V.ref p, V.ref L, V.int ((e - 1 : Nat) : Int)] by rw [sub1]), by omega, by omega, hN2.same sa, hL2, fun v2 c2 ms2 H3 b3 hN3 t2 g2 d2 => ?_⟩
   refine ⟨small_line (show 3 ≤ 100000 by decide), fun t ht => ?_⟩
   have st : Same H3 (upd H3 t (.tup [x, v1, v2])) := Same.new ht
   have t1' : Tld H3 c1 v1 := (t1.same sa).but (hN2.same sa).1 b3
   simp only [List.mem_cons, List.not_mem_nil, or_false] at mx
   have B := ((b1.trans b2).trans (sbut sa p)).trans (b3.trans (sbut st p))
   rcases mx with rfl | rfl
   ·exact q _ (.an c1 c2) ms2 _ B (hN3.same st) ⟨t, v1, v2, rfl, upd_same, t1'.same st, t2.same st⟩ ⟨g1, g2⟩ (by simp only [Cn.dp]; omega)
   ·exact q _ (.or c1 c2) ms2 _ B (hN3.same st) ⟨t, v1, v2, rfl, upd_same, t1'.same st, t2.same st⟩ ⟨g1, g2⟩ (by simp only [Cn.dp]; omega)
theorem ok__law_cond (T : Txt w K mg) : ∀ d, FnOk P w K mg base CX0 (4 + d) T._law_cond.f T._law_cond.fd ["_law_numbers_here", "_law_names", "_law_deep"] (sp__law_cond d)
 | 0 => fn_never fun _ _ _ _ ⟨_, _, _, _, _, _, _, h1, h2, _⟩ => by omega
 | d + 1 => st__law_cond T (ok__law_cond T d)
end
def sp_built (C : KC → Addr) (d : Nat) : Sp := fun vs H Q _ => ∃ (c : Cn) (v : V), vs = [v] ∧ Tld H c v ∧ c.dp ≤ d ∧ ∀ r H', Same H H' → CO C H' c r → Q r H'
def sp_held (d : Nat) : Sp := fun vs H Q _ => ∃ (c : Cn) (v : V) (a : Addr) (ρ : Row), vs = [v, .ref a] ∧ Tld H c v ∧ c.dp ≤ d ∧ c.ok ∧ H a = some (.dK ρ) ∧ fitsC ρ c ∧ ∀ H', Same H H' → Q (.bl (c.hold ρ)) H'
def sp_plain (d : Nat) : Sp := fun vs H Q _ => ∃ (c : Cn) (v : V) (b : Bool), vs = [v, .bl b] ∧ Tld H c v ∧ c.dp ≤ d ∧ c.ok ∧ ∀ r H', Same H H' → Tld H' (if b then c.opp else c.clr) r → Q r H'
def sp_comps (d : Nat) : Sp := fun vs H Q _ => ∃ (c : Cn) (v : V), vs = [v] ∧ Tld H c v ∧ c.dp ≤ d ∧ c.dp ≤ 8 ∧ ∀ (l : Addr) (us : List V) (H' : Hp), Same H H' → H' l = some (.lst us) → Paired (Tld H') c.comps us → Q (.ref l) H'
theorem sne {a b : Str} (h : a ≠ b) : ¬ (decide (V.str a = V.str b) = true) := fun z => h (by rw [str_dec] at z; exact of_decide_eq_true z)
theorem n_ac : ("and" : Str) ≠ "compare" := by decide +kernel
theorem n_oc : ("or" : Str) ≠ "compare" := by decide +kernel
theorem n_nc : ("not" : Str) ≠ "compare" := by decide +kernel
theorem n_an : ("and" : Str) ≠ "not" := by decide +kernel
theorem n_on : ("or" : Str) ≠ "not" := by decide +kernel
theorem n_cn : ("compare" : Str) ≠ "not" := by decide +kernel
theorem n_oa : ("or" : Str) ≠ "and" := by decide +kernel
theorem n_ca : ("compare" : Str) ≠ "and" := by decide +kernel
theorem n_co : ("compare" : Str) ≠ "or" := by decide +kernel
theorem comps_len : ∀ c : Cn, c.comps.length ≤ 2 ^ c.dp
 | .cmp l s r => by simp [Cn.comps, Cn.dp]
 | .an a b => by
  have h1 := comps_len a
  have h2 := comps_len b
  have h3 := Nat.pow_le_pow_right (n := 2) (by decide) (show a.dp ≤ max a.dp b.dp by omega)
  have h4 := Nat.pow_le_pow_right (n := 2) (by decide) (show b.dp ≤ max a.dp b.dp by omega)
  simp only [Cn.comps, Cn.dp, List.length_append, Nat.pow_succ]
  omega
 | .or a b => by
  have h1 := comps_len a
  have h2 := comps_len b
  have h3 := Nat.pow_le_pow_right (n := 2) (by decide) (show a.dp ≤ max a.dp b.dp by omega)
  have h4 := Nat.pow_le_pow_right (n := 2) (by decide) (show b.dp ≤ max a.dp b.dp by omega)
  simp only [Cn.comps, Cn.dp, List.length_append, Nat.pow_succ]
  omega
 | .nt a => by
  have h1 := comps_len a
  simp only [Cn.comps, Cn.dp, Nat.pow_succ]
  omega
theorem comps_small {c : Cn} (h : c.dp ≤ 8) : c.comps.length ≤ 256 := Nat.le_trans (comps_len c) (Nat.pow_le_pow_right (n := 2) (by decide) h)
theorem paired_same {H H' : Hp} (s : Same H H') : ∀ {cs : List Cn} {vs : List V}, Paired (Tld H) cs vs → Paired (Tld H') cs vs
 | _, _, .nil => .nil
 | _, _, .cons a t => .cons (a.same s) (paired_same s t)
theorem paired_app {α β : Type} {R : α → β → Prop} : ∀ {as cs : List α} {bs ds : List β}, Paired R as bs → Paired R cs ds → Paired R (as ++ cs) (bs ++ ds)
 | _, _, _, _, .nil, u => u
 | _, _, _, _, .cons a t, u => .cons a (paired_app t u)
def sgs1 : List Str := ["=", "<>", "<", "<=", ">", ">="]
def sgs2 : List Str := ["=", "<>", "<", ">=", ">", "<="]
def truthsV (x y : V) : List V := [.bl (decide (x = y)), .bl (!decide (x = y)), .bl (ltV x y), .bl (leV x y), .bl (ltV y x), .bl (leV y x)]
theorem sg_at1 {s : Str} (h : okS s) : ∃ j : Nat, sgs1[j]? = some s ∧ (∀ i, i < j → sgs1[i]? ≠ some s) ∧ ∀ x y, atI (truthsV x y) (j : Int) = some (.bl (stV s x y)) := by
 unfold okS at h
 simp only [List.mem_cons, List.not_mem_nil, or_false] at h
 rcases h with rfl | rfl | rfl | rfl | rfl | rfl
 ·exact ⟨0, rfl, fun i h => absurd h (Nat.not_lt_zero _), fun x y => by rw [stV, if_pos rfl]; rfl⟩
 ·exact ⟨1, rfl, by decide +kernel, fun x y => by rw [stV, if_neg (by decide +kernel), if_pos rfl]; rfl⟩
 ·exact ⟨2, rfl, by decide +kernel, fun x y => by rw [stV, if_neg (by decide +kernel), if_neg (by decide +kernel), if_pos rfl]; rfl⟩
 ·exact ⟨3, rfl, by decide +kernel, fun x y => by rw [stV, if_neg (by decide +kernel), if_neg (by decide +kernel), if_neg (by decide +kernel), if_pos rfl]; rfl⟩
 ·exact ⟨4, rfl, by decide +kernel, fun x y => by rw [stV, if_neg (by decide +kernel), if_neg (by decide +kernel), if_neg (by decide +kernel), if_neg (by decide +kernel), if_pos rfl]; rfl⟩
 ·exact ⟨5, rfl, by decide +kernel, fun x y => by rw [stV, if_neg (by decide +kernel), if_neg (by decide +kernel), if_neg (by decide +kernel), if_neg (by decide +kernel), if_neg (by decide +kernel)]; rfl⟩
theorem sg_at2 {s : Str} (h : okS s) : ∃ j : Nat, sgs2[j]? = some s ∧ (∀ i, i < j → sgs2[i]? ≠ some s) ∧ atI (sgs2.map V.str) (Builtin.bitXor (j : Int) 1) = some (.str (oppS s)) := by
 unfold okS at h
 simp only [List.mem_cons, List.not_mem_nil, or_false] at h
 rcases h with rfl | rfl | rfl | rfl | rfl | rfl
 ·exact ⟨0, rfl, fun i h => absurd h (Nat.not_lt_zero _), by decide +kernel⟩
 ·exact ⟨1, rfl, by decide +kernel, by decide +kernel⟩
 ·exact ⟨2, rfl, by decide +kernel, by decide +kernel⟩
 ·exact ⟨5, rfl, by decide +kernel, by decide +kernel⟩
 ·exact ⟨4, rfl, by decide +kernel, by decide +kernel⟩
 ·exact ⟨3, rfl, by decide +kernel, by decide +kernel⟩
section
variable {P : Program} {w : World} {K : PySem.W.Frag} {mg : Str → Option Value} {base : Heap}
theorem st__law_cond_built (T : Txt w K mg) {d : Nat} (G__law_cond_built : FnOk P w K mg base CX0 (3 + d) T._law_cond_built.f T._law_cond_built.fd ["_law_told"] (sp_built (clsOf T) d)) : FnOk P w K mg base CX0 (3 + d + 1) T._law_cond_built.f T._law_cond_built.fd ["_law_told"] (sp_built (clsOf T) (d + 1)) := by
 have G_Compare___init__ : FnOk P w K mg base CX0 1 T.Compare___init__.f T.Compare___init__.fd _ _ := ok_Compare___init__ T
 have G_And___init__ : FnOk P w K mg base CX0 1 T.And___init__.f T.And___init__.fd _ _ := ok_And___init__ T
 have G_Or___init__ : FnOk P w K mg base CX0 1 T.Or___init__.f T.Or___init__.fd _ _ := ok_Or___init__ T
 have G_Not___init__ : FnOk P w K mg base CX0 1 T.Not___init__.f T.Not___init__.fd _ _ := ok_Not___init__ T
 refine T._law_cond_built.fn.ok sc__law_cond_built (fun vs H Q E h => ?_) (fun cdv A outer s H vs Q E hr h => ?_)
 ·obtain ⟨_, _, rfl, _⟩ := h
  rfl
 ·obtain ⟨c, v, rfl, hT, hd, q⟩ := h
  refine ⟨_, ((pss_cons (ps_if (pt_cmpR op_eq (pe_ix (ix_tupK (K := K) rfl) (pv 0) pe_int (fun _ _ => rfl)) pe_str (nomark _)) (pss_one (ps_ret (pe_make T.k_Compare G_Compare___init__ (hr.mono (by omega)) rfl T.c_Compare T.Compare___init__.bi .nil pass0 (pa_cons (pe_ix (ix_tupK (K := K) rfl) (pv 0) pe_int (fun _ _ => rfl)) (pa_cons (pe_ix (ix_tupK (K := K) rfl) (pv 0) pe_int (fun _ _ => rfl)) (pa_cons (pe_ix (ix_tupK (K := K) rfl) (pv 0) pe_int (fun _ _ => rfl)) pa_nil)))))) pss_nil)
   (pss_cons (ps_set (i := 1) sc__law_cond_built.nd rfl (Or.inl rfl) (pe_own G__law_cond_built (hr.mono (by omega)) rfl (pa_cons (pe_ix (ix_tupK (K := K) rfl) (pv 0) pe_int (fun _ _ => rfl)) pa_nil)))
   (pss_cons (ps_if (pt_cmpR op_eq (pe_ix (ix_tupK (K := K) rfl) (pv 0) pe_int (fun _ _ => rfl)) pe_str (nomark _)) (pss_one (ps_ret (pe_make T.k_Not G_Not___init__ (hr.mono (by omega)) rfl T.c_Not T.Not___init__.bi .nil pass0 (pa_cons (pv 1) pa_nil)))) pss_nil)
   (pss_cons (ps_set (i := 2) sc__law_cond_built.nd rfl (Or.inl rfl) (pe_own G__law_cond_built (hr.mono (by omega)) rfl (pa_cons (pe_ix (ix_tupK (K := K) rfl) (pv 0) pe_int (fun _ _ => rfl)) pa_nil)))
   (pss_cons (ps_if (pt_cmpR op_eq (pe_ix (ix_tupK (K := K) rfl) (pv 0) pe_int (fun _ _ => rfl)) pe_str (nomark _)) (pss_one (ps_ret (pe_make T.k_And G_And___init__ (hr.mono (by omega)) rfl T.c_And T.And___init__.bi .nil pass0 (pa_cons (pv 1) (pa_cons (pv 2) pa_nil))))) pss_nil)
   (pss_one (ps_ret (pe_make T.k_Or G_Or___init__ (hr.mono (by omega)) rfl T.c_Or T.Or___init__.bi .nil pass0 (pa_cons (pv 1) (pa_cons (pv 2) pa_nil))))))))))), ?_⟩
  cases c with
  | cmp l sg r =>
   obtain ⟨a, b, rfl, h, t⟩ := hT
   refine ⟨_, rfl, a, _, _, _, rfl, rfl, SqT.of h, rfl, rfl, _, rfl, ite2 (fun _ => ?_) (fun z => absurd (decide_eq_true rfl) z)⟩
   refine ⟨_, rfl, a, _, _, _, rfl, rfl, SqT.of h, rfl, _, rfl, a, _, _, _, rfl, rfl, SqT.of h, rfl, _, rfl, a, _, _, _, rfl, rfl, SqT.of h, rfl, fun x dy hx hdy ne => ?_⟩
   refine ⟨x, dy, [.str l, .str sg, .ref b], rfl, rfl, upd_same, rfl, ?_⟩
   obtain ⟨s2, e2⟩ := new_step (C := T.C_Compare) (fs := cmF l sg b) hx hdy ne
   exact q _ _ s2 ⟨x, dy, b, rfl, e2, t.same s2⟩
  | nt x =>
   obtain ⟨a, vx, rfl, h, t⟩ := hT
   simp only [Cn.dp] at hd
   refine ⟨_, rfl, a, _, _, _, rfl, rfl, SqT.of h, rfl, rfl, _, rfl, ite2 (fun z => absurd z (sne n_nc)) (fun _ => ?_)⟩
   refine ⟨_, rfl, a, _, _, _, rfl, rfl, SqT.of h, rfl, x, vx, rfl, t, by omega, fun r1 H1 s1 c1 => ?_⟩
   refine ⟨_, rfl, a, _, _, _, rfl, rfl, SqT.of (s1 _ _ h), rfl, rfl, _, rfl, ite2 (fun _ => ?_) (fun z => absurd (decide_eq_true rfl) z)⟩
   refine ⟨_, rfl, fun u du hu hdu ne => ⟨u, du, [r1], rfl, rfl, upd_same, rfl, ?_⟩⟩
   obtain ⟨s2, e2⟩ := new_step (C := T.C_Not) (fs := oneF r1) hu hdu ne
   exact q _ _ (s1.trans s2) ⟨u, du, r1, rfl, e2, c1.same s2⟩
  | an x y =>
   obtain ⟨a, vx, vy, rfl, h, t, t2⟩ := hT
   simp only [Cn.dp] at hd
   refine ⟨_, rfl, a, _, _, _, rfl, rfl, SqT.of h, rfl, rfl, _, rfl, ite2 (fun z => absurd z (sne n_ac)) (fun _ => ?_)⟩
   refine ⟨_, rfl, a, _, _, _, rfl, rfl, SqT.of h, rfl, x, vx, rfl, t, by omega, fun r1 H1 s1 c1 => ?_⟩
   refine ⟨_, rfl, a, _, _, _, rfl, rfl, SqT.of (s1 _ _ h), rfl, rfl, _, rfl, ite2 (fun z => absurd z (sne n_an)) (fun _ => ?_)⟩
   refine ⟨_, rfl, a, _, _, _, rfl, rfl, SqT.of (s1 _ _ h), rfl, y, vy, rfl, t2.same s1, by omega, fun r2 H2 s2 c2 => ?_⟩
   refine ⟨_, rfl, a, _, _, _, rfl, rfl, SqT.of (s2 _ _ (s1 _ _ h)), rfl, rfl, _, rfl, ite2 (fun _ => ?_) (fun z => absurd (decide_eq_true rfl) z)⟩
   refine ⟨_, rfl, _, rfl, fun u du hu hdu ne => ⟨u, du, [r1, r2], rfl, rfl, upd_same, rfl, ?_⟩⟩
   obtain ⟨s3, e3⟩ := new_step (C := T.C_And) (fs := twoF r1 r2) hu hdu ne
   exact q _ _ ((s1.trans s2).trans s3) ⟨u, du, r1, r2, rfl, e3, c1.same (s2.trans s3), c2.same s3⟩
  | or x y =>
   obtain ⟨a, vx, vy, rfl, h, t, t2⟩ := hT
   simp only [Cn.dp] at hd
   refine ⟨_, rfl, a, _, _, _, rfl, rfl, SqT.of h, rfl, rfl, _, rfl, ite2 (fun z => absurd z (sne n_oc)) (fun _ => ?_)⟩
   refine ⟨_, rfl, a, _, _, _, rfl, rfl, SqT.of h, rfl, x, vx, rfl, t, by omega, fun r1 H1 s1 c1 => ?_⟩
   refine ⟨_, rfl, a, _, _, _, rfl, rfl, SqT.of (s1 _ _ h), rfl, rfl, _, rfl, ite2 (fun z => absurd z (sne n_on)) (fun _ => ?_)⟩
   refine ⟨_, rfl, a, _, _, _, rfl, rfl, SqT.of (s1 _ _ h), rfl, y, vy, rfl, t2.same s1, by omega, fun r2 H2 s2 c2 => ?_⟩
   refine ⟨_, rfl, a, _, _, _, rfl, rfl, SqT.of (s2 _ _ (s1 _ _ h)), rfl, rfl, _, rfl, ite2 (fun z => absurd z (sne n_oa)) (fun _ => ?_)⟩
   refine ⟨_, rfl, _, rfl, fun u du hu hdu ne => ⟨u, du, [r1, r2], rfl, rfl, upd_same, rfl, ?_⟩⟩
   obtain ⟨s3, e3⟩ := new_step (C := T.C_Or) (fs := twoF r1 r2) hu hdu ne
   exact q _ _ ((s1.trans s2).trans s3) ⟨u, du, r1, r2, rfl, e3, c1.same (s2.trans s3), c2.same s3⟩
theorem ok__law_cond_built (T : Txt w K mg) : ∀ d, FnOk P w K mg base CX0 (3 + d) T._law_cond_built.f T._law_cond_built.fd ["_law_told"] (sp_built (clsOf T) d)
 | 0 => fn_never fun _ _ _ _ ⟨_, _, _, _, h, _⟩ => no_dp h
 | d + 1 => st__law_cond_built T (ok__law_cond_built T d)
theorem st__law_compares (T : Txt w K mg) {d : Nat} (G__law_compares : FnOk P w K mg base CX0 (1 + d) T._law_compares.f T._law_compares.fd ["_law_told"] (sp_comps d)) : FnOk P w K mg base CX0 (1 + d + 1) T._law_compares.f T._law_compares.fd ["_law_told"] (sp_comps (d + 1)) := by
 refine T._law_compares.fn.ok sc__law_compares (fun vs H Q E h => ?_) (fun cdv A outer s H vs Q E hr h => ?_)
 ·obtain ⟨_, _, rfl, _⟩ := h
  rfl
 ·obtain ⟨c, v, rfl, hT, hd, h8, q⟩ := h
  refine ⟨_, ((pss_cons (ps_if (pt_cmpR op_eq (pe_ix (ix_tupK (K := K) rfl) (pv 0) pe_int (fun _ _ => rfl)) pe_str (nomark _)) (pss_one (ps_ret (pe_lst (pa_cons (pv 0) pa_nil)))) pss_nil)
   (pss_cons (ps_if (pt_cmpR op_eq (pe_ix (ix_tupK (K := K) rfl) (pv 0) pe_int (fun _ _ => rfl)) pe_str (nomark _)) (pss_one (ps_ret (pe_own G__law_compares (hr.mono (by omega)) rfl (pa_cons (pe_ix (ix_tupK (K := K) rfl) (pv 0) pe_int (fun _ _ => rfl)) pa_nil)))) pss_nil)
   (pss_one (ps_ret (pe_op op_cat (pe_own G__law_compares (hr.mono (by omega)) rfl (pa_cons (pe_ix (ix_tupK (K := K) rfl) (pv 0) pe_int (fun _ _ => rfl)) pa_nil)) (pe_own G__law_compares (hr.mono (by omega)) rfl (pa_cons (pe_ix (ix_tupK (K := K) rfl) (pv 0) pe_int (fun _ _ => rfl)) pa_nil)))))))), ?_⟩
  have hT' := hT
  cases c with
  | cmp l sg r =>
   obtain ⟨a, b, rfl, h, t⟩ := hT
   refine ⟨_, rfl, a, _, _, _, rfl, rfl, SqT.of h, rfl, rfl, _, rfl, ite2 (fun _ => ?_) (fun z => absurd (decide_eq_true rfl) z)⟩
   refine ⟨_, rfl, small_line (show 1 ≤ 100000 by decide), fun u hu => ?_⟩
   exact q u _ _ (Same.new hu) upd_same (.cons (hT'.same (Same.new hu)) .nil)
  | nt x =>
   obtain ⟨a, vx, rfl, h, t⟩ := hT
   simp only [Cn.dp] at hd h8
   refine ⟨_, rfl, a, _, _, _, rfl, rfl, SqT.of h, rfl, rfl, _, rfl, ite2 (fun z => absurd z (sne n_nc)) (fun _ => ?_)⟩
   refine ⟨_, rfl, a, _, _, _, rfl, rfl, SqT.of h, rfl, rfl, _, rfl, ite2 (fun _ => ?_) (fun z => absurd (decide_eq_true rfl) z)⟩
   exact ⟨_, rfl, a, _, _, _, rfl, rfl, SqT.of h, rfl, x, vx, rfl, t, by omega, by omega, q⟩
  | an x y =>
   obtain ⟨a, vx, vy, rfl, h, t, t2⟩ := hT
   simp only [Cn.dp] at hd h8
   refine ⟨_, rfl, a, _, _, _, rfl, rfl, SqT.of h, rfl, rfl, _, rfl, ite2 (fun z => absurd z (sne n_ac)) (fun _ => ?_)⟩
   refine ⟨_, rfl, a, _, _, _, rfl, rfl, SqT.of h, rfl, rfl, _, rfl, ite2 (fun z => absurd z (sne n_an)) (fun _ => ?_)⟩
   refine ⟨_, rfl, a, _, _, _, rfl, rfl, SqT.of h, rfl, x, vx, rfl, t, by omega, by omega, fun l1 us1 H1 s1 e1 p1 => ?_⟩
   refine ⟨_, rfl, a, _, _, _, rfl, rfl, SqT.of (s1 _ _ h), rfl, y, vy, rfl, t2.same s1, by omega, by omega, fun l2 us2 H2 s2 e2 p2 => ?_⟩
   refine ⟨l1, l2, us1, us2, rfl, rfl, s2 _ _ e1, e2, ?_, fun u hu => ?_⟩
   ·have := comps_small (c := x) (by omega)
    have := comps_small (c := y) (by omega)
    rw [← Paired.length p1, ← Paired.length p2]
    exact small_line (by omega)
   ·exact q u _ _ ((s1.trans s2).trans (Same.new hu)) upd_same (paired_app (paired_same (s2.trans (Same.new hu)) p1) (paired_same (Same.new hu) p2))
  | or x y =>
   obtain ⟨a, vx, vy, rfl, h, t, t2⟩ := hT
   simp only [Cn.dp] at hd h8
   refine ⟨_, rfl, a, _, _, _, rfl, rfl, SqT.of h, rfl, rfl, _, rfl, ite2 (fun z => absurd z (sne n_oc)) (fun _ => ?_)⟩
   refine ⟨_, rfl, a, _, _, _, rfl, rfl, SqT.of h, rfl, rfl, _, rfl, ite2 (fun z => absurd z (sne n_on)) (fun _ => ?_)⟩
   refine ⟨_, rfl, a, _, _, _, rfl, rfl, SqT.of h, rfl, x, vx, rfl, t, by omega, by omega, fun l1 us1 H1 s1 e1 p1 => ?_⟩
   refine ⟨_, rfl, a, _, _, _, rfl, rfl, SqT.of (s1 _ _ h), rfl, y, vy, rfl, t2.same s1, by omega, by omega, fun l2 us2 H2 s2 e2 p2 => ?_⟩
   refine ⟨l1, l2, us1, us2, rfl, rfl, s2 _ _ e1, e2, ?_, fun u hu => ?_⟩
   ·have := comps_small (c := x) (by omega)
    have := comps_small (c := y) (by omega)
    rw [← Paired.length p1, ← Paired.length p2]
    exact small_line (by omega)
   ·exact q u _ _ ((s1.trans s2).trans (Same.new hu)) upd_same (paired_app (paired_same (s2.trans (Same.new hu)) p1) (paired_same (Same.new hu) p2))
theorem ok__law_compares (T : Txt w K mg) : ∀ d, FnOk P w K mg base CX0 (1 + d) T._law_compares.f T._law_compares.fd ["_law_told"] (sp_comps d)
 | 0 => fn_never fun _ _ _ _ ⟨_, _, _, _, h, _⟩ => no_dp h
 | d + 1 => st__law_compares T (ok__law_compares T d)
end
def sp_atxt : Sp := fun vs H Q _ => ∃ (b : Addr) (r : At), vs = [.ref b] ∧ AtT H r b ∧ r.ok ∧ Q (.str r.txt) H
def sp_ctxt (d : Nat) : Sp := fun vs H Q _ => ∃ (c : Cn) (v : V) (n : Int), vs = [v, .int n] ∧ Tld H c v ∧ c.dp ≤ d ∧ c.ok ∧ c.dp ≤ 8 ∧ n ≤ 3 ∧ ∀ H', Same H H' → Q (.str (within c n)) H'
theorem and_glue : (" " : Str) ++ ("and" ++ " ") = " and " := by decide +kernel
theorem or_glue : (" " : Str) ++ ("or" ++ " ") = " or " := by decide +kernel
theorem glue (a x b : Str) : a ++ " " ++ x ++ " " ++ b = a ++ (" " ++ (x ++ " ")) ++ b := by
 simp only [app_assoc]
theorem len_a3 : ("and" : Str).length = 3 := by decide +kernel
theorem len_o2 : ("or" : Str).length = 2 := by decide +kernel
theorem within_cmp {l s : Str} {r : At} {n : Int} (h : n ≤ 3) : within (.cmp l s r) n = (Cn.cmp l s r).txt := if_pos h
theorem within_nt {a : Cn} {n : Int} (h : n ≤ 3) : within (.nt a) n = (Cn.nt a).txt := if_pos h
section
variable {P : Program} {w : World} {K : PySem.W.Frag} {mg : Str → Option Value} {base : Heap}
theorem ok__law_atom_text (T : Txt w K mg) : FnOk P w K mg base CX0 1 T._law_atom_text.f T._law_atom_text.fd ["_law_atom_here"] sp_atxt := by
 refine T._law_atom_text.fn.ok sc__law_atom_text (fun vs H Q E h => ?_) (fun cdv A outer s H vs Q E hr h => ?_)
 ·obtain ⟨_, _, rfl, _⟩ := h
  rfl
 ·obtain ⟨b, r, rfl, hb, ok, k⟩ := h
  refine ⟨_, ((pss_cons (ps_if (PW.pt (pw_and (pt_cmpR op_eq (pe_ix (ix_tupK (K := K) rfl) (pv 0) pe_int (fun _ _ => rfl)) pe_str (nomark _)) (pw_and1 (pt_val (pe_callB (call_isiTK (K := K) rfl) (by rfl) T.b_isinstance bt_isinstance (pa_cons (pe_ix (ix_tupK (K := K) rfl) (pv 0) pe_int (fun _ _ => rfl)) (pa_cons (pe_bltn (v := .ty "str") rfl T.b_str bt_str rfl) pa_nil))))))) (pss_one (ps_ret (pe_op op_add_str (pe_op op_add_str pe_str (pe_ix (ix_tupK (K := K) rfl) (pv 0) pe_int (fun _ _ => rfl))) pe_str))) pss_nil)
   (pss_one (ps_ret (pe_callTy call_str_val (by rfl) T.b_str bt_str (pa_cons (pe_ix (ix_tupK (K := K) rfl) (pv 0) pe_int (fun _ _ => rfl)) pa_nil)))))), ?_⟩
  refine ⟨_, rfl, b, _, _, _, rfl, rfl, SqT.of hb, rfl, rfl, _, rfl, ?_⟩
  cases r with
  | col n =>
   refine ite2 (fun z => absurd (of_decide_eq_true z) (show ¬ V.str "column" = V.str "value" by decide +kernel)) (fun _ => iteF ?_)
   exact ⟨_, rfl, b, _, _, _, rfl, rfl, SqT.of hb, rfl, _, rfl, .inr ⟨_, rfl⟩, k⟩
  | num i =>
   refine ite2 (fun _ => ?_) (fun z => absurd (decide_eq_true rfl) z)
   refine ⟨_, rfl, b, _, _, _, rfl, rfl, SqT.of hb, rfl, _, _, _, _, rfl, .int i, (show PySem.W.kitOne K (.type "int") (.type "str") = some false by rfl), _, rfl, iteF ?_⟩
   exact ⟨_, rfl, b, _, _, _, rfl, rfl, SqT.of hb, rfl, _, rfl, .inl ⟨i, rfl, log_ok ok⟩, k⟩
  | wrd x =>
   have ok : x.length ≤ 8 := ok
   refine ite2 (fun _ => ?_) (fun z => absurd (decide_eq_true rfl) z)
   refine ⟨_, rfl, b, _, _, _, rfl, rfl, SqT.of hb, rfl, _, _, _, _, rfl, .str x, kit_same, _, rfl, iteT ?_⟩
   refine ⟨_, rfl, b, _, _, _, rfl, rfl, SqT.of hb, rfl, _, _, rfl, rfl, ?_, _, _, rfl, rfl, ?_, k⟩
   ·exact small_line (by rw [show ("'" : Str).length = 1 by decide +kernel]; omega)
   ·exact small_line (by rw [app_len, show ("'" : Str).length = 1 by decide +kernel]; omega)
theorem st__law_cond_text (T : Txt w K mg) {d : Nat} (G__law_cond_text : FnOk P w K mg base CX0 (2 + d) T._law_cond_text.f T._law_cond_text.fd ["_law_told", "_law_least"] (sp_ctxt d)) : FnOk P w K mg base CX0 (2 + d + 1) T._law_cond_text.f T._law_cond_text.fd ["_law_told", "_law_least"] (sp_ctxt (d + 1)) := by
 have G__law_atom_text : FnOk P w K mg base CX0 1 T._law_atom_text.f T._law_atom_text.fd _ _ := ok__law_atom_text T
 refine T._law_cond_text.fn.ok sc__law_cond_text (fun vs H Q E h => ?_) (fun cdv A outer s H vs Q E hr h => ?_)
 ·obtain ⟨_, _, _, rfl, _⟩ := h
  rfl
 ·obtain ⟨c, v, n, rfl, hT, hd, ok, h8, n3, q⟩ := h
  refine ⟨_, ((pss_cons (ps_if (pt_cmpR op_eq (pe_ix (ix_tupK (K := K) rfl) (pv 0) pe_int (fun _ _ => rfl)) pe_str (nomark _)) (pss_one (ps_ret (pe_op op_add_str (pe_op op_add_str (pe_op op_add_str (pe_op op_add_str (pe_ix (ix_tupK (K := K) rfl) (pv 0) pe_int (fun _ _ => rfl)) pe_str) (pe_ix (ix_tupK (K := K) rfl) (pv 0) pe_int (fun _ _ => rfl))) pe_str) (pe_own G__law_atom_text (hr.mono (by omega)) rfl (pa_cons (pe_ix (ix_tupK (K := K) rfl) (pv 0) pe_int (fun _ _ => rfl)) pa_nil))))) pss_nil)
   (pss_cons (ps_if (pt_cmpR op_eq (pe_ix (ix_tupK (K := K) rfl) (pv 0) pe_int (fun _ _ => rfl)) pe_str (nomark _)) (pss_one (ps_ret (pe_op op_add_str pe_str (pe_own G__law_cond_text (hr.mono (by omega)) rfl (pa_cons (pe_ix (ix_tupK (K := K) rfl) (pv 0) pe_int (fun _ _ => rfl)) (pa_cons pe_int pa_nil)))))) pss_nil)
   (pss_cons (ps_set (i := 2) sc__law_cond_text.nd rfl (Or.inl rfl) (pe_op op_add pe_int (pe_callTy call_int1 (by rfl) T.b_int bt_int (pa_cons (pe_cmpR op_eq (pe_ix (ix_tupK (K := K) rfl) (pv 0) pe_int (fun _ _ => rfl)) pe_str (nomark _)) pa_nil))))
   (pss_cons (ps_set (i := 3) sc__law_cond_text.nd rfl (Or.inl rfl) (pe_op op_add_str (pe_op op_add_str (pe_op op_add_str (pe_op op_add_str (pe_own G__law_cond_text (hr.mono (by omega)) rfl (pa_cons (pe_ix (ix_tupK (K := K) rfl) (pv 0) pe_int (fun _ _ => rfl)) (pa_cons (pv 2) pa_nil))) pe_str) (pe_ix (ix_tupK (K := K) rfl) (pv 0) pe_int (fun _ _ => rfl))) pe_str) (pe_own G__law_cond_text (hr.mono (by omega)) rfl (pa_cons (pe_ix (ix_tupK (K := K) rfl) (pv 0) pe_int (fun _ _ => rfl)) (pa_cons (pe_op op_add (pv 2) pe_int) pa_nil)))))
   (pss_cons (ps_if (pt_cmpR op_lt (pv 2) (pv 1) (nomark _)) (pss_one (ps_ret (pe_op op_add_str (pe_op op_add_str pe_str (pv 3)) pe_str))) pss_nil)
   (pss_one (ps_ret (pv 3))))))))), ?_⟩
  cases c with
  | cmp l sg r =>
   obtain ⟨a, b, rfl, h, t⟩ := hT
   have l1 := ok.1
   have l2 := sg_len ok.2.1
   have l3 := at_len ok.2.2
   refine ⟨_, rfl, a, _, _, _, rfl, rfl, SqT.of h, rfl, rfl, _, rfl, ite2 (fun _ => ?_) (fun z => absurd (decide_eq_true rfl) z)⟩
   refine ⟨_, rfl, a, _, _, _, rfl, rfl, SqT.of h, rfl, _, _, rfl, rfl, small_line (by rw [len_sp]; omega), ?_⟩
   refine ⟨_, rfl, a, _, _, _, rfl, rfl, SqT.of h, rfl, _, _, rfl, rfl, small_line (by rw [app_len, len_sp]; omega), ?_⟩
   refine ⟨_, _, rfl, rfl, small_line (by rw [app_len, app_len, len_sp]; omega), ?_⟩
   refine ⟨_, rfl, a, _, _, _, rfl, rfl, SqT.of h, rfl, b, r, rfl, t, ok.2.2, _, _, rfl, rfl, small_line (by rw [app_len, app_len, app_len, len_sp]; omega), ?_⟩
   have e : l ++ " " ++ sg ++ " " ++ r.txt = within (.cmp l sg r) n := by
    rw [within_cmp n3]
    show _ = Txt.join " " [l, sg, r.txt]
    rw [join3]
    simp only [app_assoc]
   rw [e]
   exact q _ (Same.refl _)
  | nt x =>
   obtain ⟨a, vx, rfl, h, t⟩ := hT
   simp only [Cn.dp] at hd h8
   refine ⟨_, rfl, a, _, _, _, rfl, rfl, SqT.of h, rfl, rfl, _, rfl, ite2 (fun z => absurd z (sne n_nc)) (fun _ => ?_)⟩
   refine ⟨_, rfl, a, _, _, _, rfl, rfl, SqT.of h, rfl, rfl, _, rfl, ite2 (fun _ => ?_) (fun z => absurd (decide_eq_true rfl) z)⟩
   refine ⟨_, rfl, a, _, _, _, rfl, rfl, SqT.of h, rfl, x, vx, 3, rfl, t, by omega, ok, by omega, by decide, fun H1 s1 => ?_⟩
   have w1 := within_small (c := x) (n := 3) ok (by omega)
   refine ⟨_, _, rfl, rfl, small_line (by rw [len_not]; omega), ?_⟩
   have := q H1 s1
   rw [within_nt n3] at this
   exact this
  | an x y =>
   obtain ⟨a, vx, vy, rfl, h, t, t2⟩ := hT
   have w3 := txt_small (c := .an x y) ok h8
   simp only [Cn.dp] at hd h8
   refine ⟨_, rfl, a, _, _, _, rfl, rfl, SqT.of h, rfl, rfl, _, rfl, ite2 (fun z => absurd z (sne n_ac)) (fun _ => ?_)⟩
   refine ⟨_, rfl, a, _, _, _, rfl, rfl, SqT.of h, rfl, rfl, _, rfl, ite2 (fun z => absurd z (sne n_an)) (fun _ => ?_)⟩
   refine ⟨_, rfl, a, _, _, _, rfl, rfl, SqT.of h, rfl, rfl, .inr ⟨_, rfl, _, _, rfl, rfl, ?_⟩⟩
   have lv : (1 : Int) + (if decide (V.str "and" = V.str "and") = true then 1 else 0) = 2 := by decide +kernel
   show tSeq _ _ _ _ _
   dsimp only
   rw [lv]
   have w1 := within_small (c := x) (n := 2) ok.1 (by omega)
   have w2 := within_small (c := y) (n := 2 + 1) ok.2 (by omega)
   refine ⟨_, rfl, a, _, _, _, rfl, rfl, SqT.of h, rfl, _, rfl, x, vx, 2, rfl, t, by omega, ok.1, by omega, by decide, fun H1 s1 => ?_⟩
   refine ⟨_, _, rfl, rfl, small_line (by rw [len_sp]; omega), ?_⟩
   refine ⟨_, rfl, a, _, _, _, rfl, rfl, SqT.of (s1 _ _ h), rfl, _, _, rfl, rfl, small_line (by rw [app_len, len_sp, len_a3]; omega), ?_⟩
   refine ⟨_, _, rfl, rfl, small_line (by rw [app_len, app_len, len_sp, len_a3]; omega), ?_⟩
   refine ⟨_, rfl, a, _, _, _, rfl, rfl, SqT.of (s1 _ _ h), rfl, _, rfl, _, _, rfl, rfl, y, vy, 2 + 1, rfl, t2.same s1, by omega, ok.2, by omega, by decide, fun H2 s2 => ?_⟩
   refine ⟨_, _, rfl, rfl, small_line (by rw [app_len, app_len, app_len, len_sp, len_a3]; omega), ?_⟩
   have e : within x 2 ++ " " ++ "and" ++ " " ++ within y (2 + 1) = (Cn.an x y).txt := by
    rw [glue, and_glue]
    rfl
   rw [e]
   have S := s1.trans s2
   refine ⟨_, rfl, _, rfl, _, _, rfl, rfl, _, rfl, ite2 (fun z => ?_) (fun z => ?_)⟩
   ·have z : (2 : Int) < n := of_decide_eq_true z
    refine ⟨_, rfl, _, _, rfl, rfl, small_line (by rw [len_b1]; omega), _, _, rfl, rfl, small_line (by rw [app_len, len_b1, len_b2]; omega), ?_⟩
    have e2 : within (.an x y) n = inBr (Cn.an x y).txt := if_neg (by show ¬ (2 : Int) ≥ n; omega)
    have := q H2 S
    rw [e2] at this
    exact this
   ·have z : ¬ (2 : Int) < n := of_decide_eq_false (by simpa using z)
    have e2 : within (.an x y) n = (Cn.an x y).txt := if_pos (by show (2 : Int) ≥ n; omega)
    have := q H2 S
    rw [e2] at this
    exact ⟨_, rfl, this⟩
  | or x y =>
   obtain ⟨a, vx, vy, rfl, h, t, t2⟩ := hT
   have w3 := txt_small (c := .or x y) ok h8
   simp only [Cn.dp] at hd h8
   refine ⟨_, rfl, a, _, _, _, rfl, rfl, SqT.of h, rfl, rfl, _, rfl, ite2 (fun z => absurd z (sne n_oc)) (fun _ => ?_)⟩
   refine ⟨_, rfl, a, _, _, _, rfl, rfl, SqT.of h, rfl, rfl, _, rfl, ite2 (fun z => absurd z (sne n_on)) (fun _ => ?_)⟩
   refine ⟨_, rfl, a, _, _, _, rfl, rfl, SqT.of h, rfl, rfl, .inr ⟨_, rfl, _, _, rfl, rfl, ?_⟩⟩
   have lv : (1 : Int) + (if decide (V.str "or" = V.str "and") = true then 1 else 0) = 1 := by decide +kernel
   show tSeq _ _ _ _ _
   dsimp only
   rw [lv]
   have w1 := within_small (c := x) (n := 1) ok.1 (by omega)
   have w2 := within_small (c := y) (n := 1 + 1) ok.2 (by omega)
   refine ⟨_, rfl, a, _, _, _, rfl, rfl, SqT.of h, rfl, _, rfl, x, vx, 1, rfl, t, by omega, ok.1, by omega, by decide, fun H1 s1 => ?_⟩
   refine ⟨_, _, rfl, rfl, small_line (by rw [len_sp]; omega), ?_⟩
   refine ⟨_, rfl, a, _, _, _, rfl, rfl, SqT.of (s1 _ _ h), rfl, _, _, rfl, rfl, small_line (by rw [app_len, len_sp, len_o2]; omega), ?_⟩
   refine ⟨_, _, rfl, rfl, small_line (by rw [app_len, app_len, len_sp, len_o2]; omega), ?_⟩
   refine ⟨_, rfl, a, _, _, _, rfl, rfl, SqT.of (s1 _ _ h), rfl, _, rfl, _, _, rfl, rfl, y, vy, 1 + 1, rfl, t2.same s1, by omega, ok.2, by omega, by decide, fun H2 s2 => ?_⟩
   refine ⟨_, _, rfl, rfl, small_line (by rw [app_len, app_len, app_len, len_sp, len_o2]; omega), ?_⟩
   have e : within x 1 ++ " " ++ "or" ++ " " ++ within y (1 + 1) = (Cn.or x y).txt := by
    rw [glue, or_glue]
    rfl
   rw [e]
   have S := s1.trans s2
   refine ⟨_, rfl, _, rfl, _, _, rfl, rfl, _, rfl, ite2 (fun z => ?_) (fun z => ?_)⟩
   ·have z : (1 : Int) < n := of_decide_eq_true z
    refine ⟨_, rfl, _, _, rfl, rfl, small_line (by rw [len_b1]; omega), _, _, rfl, rfl, small_line (by rw [app_len, len_b1, len_b2]; omega), ?_⟩
    have e2 : within (.or x y) n = inBr (Cn.or x y).txt := if_neg (by show ¬ (1 : Int) ≥ n; omega)
    have := q H2 S
    rw [e2] at this
    exact this
   ·have z : ¬ (1 : Int) < n := of_decide_eq_false (by simpa using z)
    have e2 : within (.or x y) n = (Cn.or x y).txt := if_pos (by show (1 : Int) ≥ n; omega)
    have := q H2 S
    rw [e2] at this
    exact ⟨_, rfl, this⟩
theorem ok__law_cond_text (T : Txt w K mg) : ∀ d, FnOk P w K mg base CX0 (2 + d) T._law_cond_text.f T._law_cond_text.fd ["_law_told", "_law_least"] (sp_ctxt d)
 | 0 => fn_never fun _ _ _ _ ⟨_, _, _, _, _, h, _⟩ => no_dp h
 | d + 1 => st__law_cond_text T (ok__law_cond_text T d)
theorem st__law_held (T : Txt w K mg) {d : Nat} (G__law_held : FnOk P w K mg base CX0 (1 + d) T._law_held.f T._law_held.fd ["_law_told", "_law_values"] (sp_held d)) : FnOk P w K mg base CX0 (1 + d + 1) T._law_held.f T._law_held.fd ["_law_told", "_law_values"] (sp_held (d + 1)) := by
 refine T._law_held.fn.ok sc__law_held (fun vs H Q E h => ?_) (fun cdv A outer s H vs Q E hr h => ?_)
 ·obtain ⟨_, _, _, _, rfl, _⟩ := h
  rfl
 ·obtain ⟨c, v, va, ρ, rfl, hT, hd, ok, hρ, hf, q⟩ := h
  have hu1 := hu_of hr
  refine ⟨_, ((pss_cons (ps_if (pt_cmpR op_eq (pe_ix (ix_tupK (K := K) rfl) (pv 0) pe_int (fun _ _ => rfl)) pe_str (nomark _)) (pss_one (ps_ret (pe_not (pe_own G__law_held (hr.mono (by omega)) rfl (pa_cons (pe_ix (ix_tupK (K := K) rfl) (pv 0) pe_int (fun _ _ => rfl)) (pa_cons (pv 1) pa_nil)))))) pss_nil)
   (pss_cons (ps_if (pt_cmpR op_eq (pe_ix (ix_tupK (K := K) rfl) (pv 0) pe_int (fun _ _ => rfl)) pe_str (nomark _)) (pss_one (ps_ret (pe_and (pe_own G__law_held (hr.mono (by omega)) rfl (pa_cons (pe_ix (ix_tupK (K := K) rfl) (pv 0) pe_int (fun _ _ => rfl)) (pa_cons (pv 1) pa_nil))) (pe_one (pe_own G__law_held (hr.mono (by omega)) rfl (pa_cons (pe_ix (ix_tupK (K := K) rfl) (pv 0) pe_int (fun _ _ => rfl)) (pa_cons (pv 1) pa_nil))))))) pss_nil)
   (pss_cons (ps_if (pt_cmpR op_eq (pe_ix (ix_tupK (K := K) rfl) (pv 0) pe_int (fun _ _ => rfl)) pe_str (nomark _)) (pss_one (ps_ret (pe_or (pe_own G__law_held (hr.mono (by omega)) rfl (pa_cons (pe_ix (ix_tupK (K := K) rfl) (pv 0) pe_int (fun _ _ => rfl)) (pa_cons (pv 1) pa_nil))) (pe_one (pe_own G__law_held (hr.mono (by omega)) rfl (pa_cons (pe_ix (ix_tupK (K := K) rfl) (pv 0) pe_int (fun _ _ => rfl)) (pa_cons (pv 1) pa_nil))))))) pss_nil)
   (pss_cons (ps_set (i := 2) sc__law_held.nd rfl (Or.inl rfl) (pe_dget hu1 (pv 1) (pe_ix (ix_tupK (K := K) rfl) (pv 0) pe_int (fun _ _ => rfl)) (fun _ _ => rfl)))
   (pss_cons (ps_set (i := 3) sc__law_held.nd rfl (Or.inl rfl) (pe_ix (ix_tupK (K := K) rfl) (pe_ix (ix_tupK (K := K) rfl) (pv 0) pe_int (fun _ _ => rfl)) pe_int (fun _ _ => rfl)))
   (pss_cons (ps_if (pt_cmpR op_eq (pe_ix (ix_tupK (K := K) rfl) (pe_ix (ix_tupK (K := K) rfl) (pv 0) pe_int (fun _ _ => rfl)) pe_int (fun _ _ => rfl)) pe_str (nomark _)) (pss_one (ps_set (i := 3) sc__law_held.nd rfl (Or.inl rfl) (pe_dget hu1 (pv 1) (pv 3) (fun _ _ => rfl)))) pss_nil)
   (pss_cons (ps_set (i := 4) sc__law_held.nd rfl (Or.inl rfl) (pe_lst (pa_cons (pe_cmpR op_eq (pv 2) (pv 3) (nomark _)) (pa_cons (pe_cmpR op_ne (pv 2) (pv 3) (nomark _)) (pa_cons (pe_cmpR (OpR.or op_lt op_lt_str) (pv 2) (pv 3) (nomark _)) (pa_cons (pe_cmpR (OpR.or op_le op_le_str) (pv 2) (pv 3) (nomark _)) (pa_cons (pe_cmpR (OpR.or op_gt op_gt_str) (pv 2) (pv 3) (nomark _)) (pa_cons (pe_cmpR (OpR.or op_ge op_ge_str) (pv 2) (pv 3) (nomark _)) pa_nil))))))))
   (pss_one (ps_ret (pe_ix (ix_listK (K := K) rfl) (pv 4) (pe_bmK (K := K) rfl PySem.F.plainAttrs_list PySem.F.slot_list_index PySem.F.type_list_index mt_indexL (pe_lst (pa_cons pe_str (pa_cons pe_str (pa_cons pe_str (pa_cons pe_str (pa_cons pe_str (pa_cons pe_str pa_nil))))))) (pa_cons (pe_ix (ix_tupK (K := K) rfl) (pv 0) pe_int (fun _ _ => rfl)) pa_nil)) (fun _ _ => rfl)))))))))))), ?_⟩
  cases c with
  | cmp l sg r =>
   obtain ⟨a, b, rfl, h, t⟩ := hT
   obtain ⟨x, y, e1, e2, al⟩ := hf
   obtain ⟨j, hj, hno, hv⟩ := sg_at1 ok.2.1
   have jl : j < 6 := (List.getElem?_eq_some_iff.mp hj).1
   have hh : (Cn.cmp l sg r).hold ρ = stV sg x y := by simp only [Cn.hold, e1, e2, Option.getD_some]
   refine ⟨_, rfl, a, _, _, _, rfl, rfl, SqT.of h, rfl, rfl, _, rfl, ite2 (fun z => absurd z (sne n_cn)) (fun _ => ?_)⟩
   refine ⟨_, rfl, a, _, _, _, rfl, rfl, SqT.of h, rfl, rfl, _, rfl, ite2 (fun z => absurd z (sne n_ca)) (fun _ => ?_)⟩
   refine ⟨_, rfl, a, _, _, _, rfl, rfl, SqT.of h, rfl, rfl, _, rfl, ite2 (fun z => absurd z (sne n_co)) (fun _ => ?_)⟩
   refine ⟨_, rfl, _, rfl, a, _, _, _, rfl, rfl, SqT.of h, rfl, va, x, rfl, look_get hρ e1, ?_⟩
   refine ⟨_, rfl, a, _, _, _, rfl, rfl, SqT.of h, rfl, b, _, _, _, rfl, rfl, SqT.of t, rfl, ?_⟩
   refine ⟨_, rfl, a, _, _, _, rfl, rfl, SqT.of h, rfl, b, _, _, _, rfl, rfl, SqT.of t, rfl, rfl, _, rfl, ?_⟩
   cases r with
   | col n =>
    refine ite2 (fun _ => ?_) (fun z => absurd (decide_eq_true rfl) z)
    refine ⟨_, rfl, _, rfl, va, y, rfl, look_get hρ e2, ?_⟩
    cases x with
    | int i =>
     cases y with
     | int k =>
      refine ⟨_, rfl, _, rfl, rfl, _, rfl, _, rfl, rfl, _, rfl, _, rfl, .inl ⟨_, _, rfl, rfl, _, rfl, _, rfl, .inl ⟨_, _, rfl, rfl, _, rfl, _, rfl, .inl ⟨_, _, rfl, rfl, _, rfl, _, rfl, .inl ⟨_, _, rfl, rfl, small_line (show 6 ≤ 100000 by decide), fun e he => ?_⟩⟩⟩⟩⟩
      have se : Same H (upd H e (.lst (truthsV (.int i) (.int k)))) := Same.new he
      refine ⟨_, rfl, small_line (show 6 ≤ 100000 by decide), fun e2 he2 => ⟨.inl ⟨rfl, _, SqL.of upd_same⟩, ?_⟩⟩
      have se2 := Same.new (o := .lst (sgs1.map V.str)) he2
      refine ⟨_, rfl, a, _, _, _, rfl, rfl, SqT.of (se2 _ _ (se _ _ h)), rfl, e2, sgs1, sg, j, rfl, rfl, upd_same, by decide, hj, hno, ?_⟩
      refine ⟨e, truthsV (.int i) (.int k), _, _, rfl, rfl, SqL.of (se2 _ _ upd_same), hv _ _, ?_⟩
      have := q _ (se.trans se2)
      rw [hh] at this
      exact this
     | _ => cases al
    | str i =>
     cases y with
     | str k =>
      refine ⟨_, rfl, _, rfl, rfl, _, rfl, _, rfl, rfl, _, rfl, _, rfl, .inr ⟨_, _, rfl, rfl, _, rfl, _, rfl, .inr ⟨_, _, rfl, rfl, _, rfl, _, rfl, .inr ⟨_, _, rfl, rfl, _, rfl, _, rfl, .inr ⟨_, _, rfl, rfl, small_line (show 6 ≤ 100000 by decide), fun e he => ?_⟩⟩⟩⟩⟩
      have se : Same H (upd H e (.lst (truthsV (.str i) (.str k)))) := Same.new he
      refine ⟨_, rfl, small_line (show 6 ≤ 100000 by decide), fun e2 he2 => ⟨.inl ⟨rfl, _, SqL.of upd_same⟩, ?_⟩⟩
      have se2 := Same.new (o := .lst (sgs1.map V.str)) he2
      refine ⟨_, rfl, a, _, _, _, rfl, rfl, SqT.of (se2 _ _ (se _ _ h)), rfl, e2, sgs1, sg, j, rfl, rfl, upd_same, by decide, hj, hno, ?_⟩
      refine ⟨e, truthsV (.str i) (.str k), _, _, rfl, rfl, SqL.of (se2 _ _ upd_same), hv _ _, ?_⟩
      have := q _ (se.trans se2)
      rw [hh] at this
      exact this
     | _ => cases al
    | _ => cases al
   | num k =>
    refine ite2 (fun z => absurd (of_decide_eq_true z) not_col) (fun _ => ?_)
    cases e2
    cases x with
    | int i =>
     refine ⟨_, rfl, _, rfl, rfl, _, rfl, _, rfl, rfl, _, rfl, _, rfl, .inl ⟨_, _, rfl, rfl, _, rfl, _, rfl, .inl ⟨_, _, rfl, rfl, _, rfl, _, rfl, .inl ⟨_, _, rfl, rfl, _, rfl, _, rfl, .inl ⟨_, _, rfl, rfl, small_line (show 6 ≤ 100000 by decide), fun e he => ?_⟩⟩⟩⟩⟩
     have se : Same H (upd H e (.lst (truthsV (.int i) (.int k)))) := Same.new he
     refine ⟨_, rfl, small_line (show 6 ≤ 100000 by decide), fun e2 he2 => ⟨.inl ⟨rfl, _, SqL.of upd_same⟩, ?_⟩⟩
     have se2 := Same.new (o := .lst (sgs1.map V.str)) he2
     refine ⟨_, rfl, a, _, _, _, rfl, rfl, SqT.of (se2 _ _ (se _ _ h)), rfl, e2, sgs1, sg, j, rfl, rfl, upd_same, by decide, hj, hno, ?_⟩
     refine ⟨e, truthsV (.int i) (.int k), _, _, rfl, rfl, SqL.of (se2 _ _ upd_same), hv _ _, ?_⟩
     have := q _ (se.trans se2)
     rw [hh] at this
     exact this
    | _ => cases al
   | wrd k =>
    refine ite2 (fun z => absurd (of_decide_eq_true z) not_col) (fun _ => ?_)
    cases e2
    cases x with
    | str i =>
     refine ⟨_, rfl, _, rfl, rfl, _, rfl, _, rfl, rfl, _, rfl, _, rfl, .inr ⟨_, _, rfl, rfl, _, rfl, _, rfl, .inr ⟨_, _, rfl, rfl, _, rfl, _, rfl, .inr ⟨_, _, rfl, rfl, _, rfl, _, rfl, .inr ⟨_, _, rfl, rfl, small_line (show 6 ≤ 100000 by decide), fun e he => ?_⟩⟩⟩⟩⟩
     have se : Same H (upd H e (.lst (truthsV (.str i) (.str k)))) := Same.new he
     refine ⟨_, rfl, small_line (show 6 ≤ 100000 by decide), fun e2 he2 => ⟨.inl ⟨rfl, _, SqL.of upd_same⟩, ?_⟩⟩
     have se2 := Same.new (o := .lst (sgs1.map V.str)) he2
     refine ⟨_, rfl, a, _, _, _, rfl, rfl, SqT.of (se2 _ _ (se _ _ h)), rfl, e2, sgs1, sg, j, rfl, rfl, upd_same, by decide, hj, hno, ?_⟩
     refine ⟨e, truthsV (.str i) (.str k), _, _, rfl, rfl, SqL.of (se2 _ _ upd_same), hv _ _, ?_⟩
     have := q _ (se.trans se2)
     rw [hh] at this
     exact this
    | _ => cases al
  | nt x =>
   obtain ⟨a, vx, rfl, h, t⟩ := hT
   simp only [Cn.dp] at hd
   refine ⟨_, rfl, a, _, _, _, rfl, rfl, SqT.of h, rfl, rfl, _, rfl, ite2 (fun _ => ?_) (fun z => absurd (decide_eq_true rfl) z)⟩
   exact ⟨_, rfl, a, _, _, _, rfl, rfl, SqT.of h, rfl, _, rfl, x, vx, va, ρ, rfl, t, by omega, ok, hρ, hf, fun H1 s1 => ⟨_, rfl, q H1 s1⟩⟩
  | an x y =>
   obtain ⟨a, vx, vy, rfl, h, t, t2⟩ := hT
   simp only [Cn.dp] at hd
   simp only [Cn.hold] at q
   refine ⟨_, rfl, a, _, _, _, rfl, rfl, SqT.of h, rfl, rfl, _, rfl, ite2 (fun z => absurd z (sne n_an)) (fun _ => ?_)⟩
   refine ⟨_, rfl, a, _, _, _, rfl, rfl, SqT.of h, rfl, rfl, _, rfl, ite2 (fun _ => ?_) (fun z => absurd (decide_eq_true rfl) z)⟩
   refine ⟨_, rfl, a, _, _, _, rfl, rfl, SqT.of h, rfl, _, rfl, x, vx, va, ρ, rfl, t, by omega, ok.1, hρ, hf.1, fun H1 s1 => ⟨_, rfl, ite2 (fun z => ?_) (fun z => ?_)⟩⟩
   ·rw [z] at q
    exact ⟨_, rfl, a, _, _, _, rfl, rfl, SqT.of (s1 _ _ h), rfl, _, rfl, y, vy, va, ρ, rfl, t2.same s1, by omega, ok.2, s1 _ _ hρ, hf.2, fun H2 s2 => by have := q H2 (s1.trans s2); rw [Bool.true_and] at this; exact this⟩
   ·have z : x.hold ρ = false := by simpa using z
    rw [z] at q
    exact q H1 s1
  | or x y =>
   obtain ⟨a, vx, vy, rfl, h, t, t2⟩ := hT
   simp only [Cn.dp] at hd
   simp only [Cn.hold] at q
   refine ⟨_, rfl, a, _, _, _, rfl, rfl, SqT.of h, rfl, rfl, _, rfl, ite2 (fun z => absurd z (sne n_on)) (fun _ => ?_)⟩
   refine ⟨_, rfl, a, _, _, _, rfl, rfl, SqT.of h, rfl, rfl, _, rfl, ite2 (fun z => absurd z (sne n_oa)) (fun _ => ?_)⟩
   refine ⟨_, rfl, a, _, _, _, rfl, rfl, SqT.of h, rfl, rfl, _, rfl, ite2 (fun _ => ?_) (fun z => absurd (decide_eq_true rfl) z)⟩
   refine ⟨_, rfl, a, _, _, _, rfl, rfl, SqT.of h, rfl, _, rfl, x, vx, va, ρ, rfl, t, by omega, ok.1, hρ, hf.1, fun H1 s1 => ⟨_, rfl, ite2 (fun z => ?_) (fun z => ?_)⟩⟩
   ·rw [z] at q
    exact q H1 s1
   ·have z : x.hold ρ = false := by simpa using z
    rw [z] at q
    exact ⟨_, rfl, a, _, _, _, rfl, rfl, SqT.of (s1 _ _ h), rfl, _, rfl, y, vy, va, ρ, rfl, t2.same s1, by omega, ok.2, s1 _ _ hρ, hf.2, fun H2 s2 => by have := q H2 (s1.trans s2); rw [Bool.false_or] at this; exact this⟩
theorem ok__law_held (T : Txt w K mg) : ∀ d, FnOk P w K mg base CX0 (1 + d) T._law_held.f T._law_held.fd ["_law_told", "_law_values"] (sp_held d)
 | 0 => fn_never fun _ _ _ _ ⟨_, _, _, _, _, _, h, _⟩ => no_dp h
 | d + 1 => st__law_held T (ok__law_held T d)
theorem st__law_plain (T : Txt w K mg) {d : Nat} (G__law_plain : FnOk P w K mg base CX0 (1 + d) T._law_plain.f T._law_plain.fd ["_law_told", "_law_turned_here"] (sp_plain d)) : FnOk P w K mg base CX0 (1 + d + 1) T._law_plain.f T._law_plain.fd ["_law_told", "_law_turned_here"] (sp_plain (d + 1)) := by
 refine T._law_plain.fn.ok sc__law_plain (fun vs H Q E h => ?_) (fun cdv A outer s H vs Q E hr h => ?_)
 ·obtain ⟨_, _, _, rfl, _⟩ := h
  rfl
 ·obtain ⟨c, v, bb, rfl, hT, hd, ok, q⟩ := h
  refine ⟨_, ((pss_cons (ps_if (pt_cmpR op_eq (pe_ix (ix_tupK (K := K) rfl) (pv 0) pe_int (fun _ _ => rfl)) pe_str (nomark _)) (pss_one (ps_ret (pe_own G__law_plain (hr.mono (by omega)) rfl (pa_cons (pe_ix (ix_tupK (K := K) rfl) (pv 0) pe_int (fun _ _ => rfl)) (pa_cons (pe_not (pv 1)) pa_nil))))) pss_nil)
   (pss_cons (ps_if (pt_cmpR op_ne (pe_ix (ix_tupK (K := K) rfl) (pv 0) pe_int (fun _ _ => rfl)) pe_str (nomark _)) (pss_cons (ps_set (i := 2) sc__law_plain.nd rfl (Or.inl rfl) (pe_ix (ix_tupK (K := K) rfl) (pv 0) pe_int (fun _ _ => rfl)))
   (pss_cons (ps_if (pt_val (pv 1)) (pss_one (ps_set (i := 2) sc__law_plain.nd rfl (Or.inl rfl) (pe_ix (ix_listK (K := K) rfl) (pe_lst (pa_cons pe_str (pa_cons pe_str pa_nil))) (pe_callTy call_int1 (by rfl) T.b_int bt_int (pa_cons (pe_cmpR op_eq (pe_ix (ix_tupK (K := K) rfl) (pv 0) pe_int (fun _ _ => rfl)) pe_str (nomark _)) pa_nil)) (fun _ _ => rfl)))) pss_nil)
   (pss_one (ps_ret (pe_tup (pa_cons (pv 2) (pa_cons (pe_own G__law_plain (hr.mono (by omega)) rfl (pa_cons (pe_ix (ix_tupK (K := K) rfl) (pv 0) pe_int (fun _ _ => rfl)) (pa_cons (pv 1) pa_nil))) (pa_cons (pe_own G__law_plain (hr.mono (by omega)) rfl (pa_cons (pe_ix (ix_tupK (K := K) rfl) (pv 0) pe_int (fun _ _ => rfl)) (pa_cons (pv 1) pa_nil))) pa_nil)))))))) pss_nil)
   (pss_cons (ps_if (pt_not (pt_val (pv 1))) (pss_one (ps_ret (pv 0))) pss_nil)
   (pss_cons (ps_set (i := 3) sc__law_plain.nd rfl (Or.inl rfl) (pe_lst (pa_cons pe_str (pa_cons pe_str (pa_cons pe_str (pa_cons pe_str (pa_cons pe_str (pa_cons pe_str pa_nil))))))))
   (pss_one (ps_ret (pe_tup (pa_cons pe_str (pa_cons (pe_ix (ix_tupK (K := K) rfl) (pv 0) pe_int (fun _ _ => rfl)) (pa_cons (pe_ix (ix_listK (K := K) rfl) (pv 3) (pe_op op_xor (pe_bmK (K := K) rfl PySem.F.plainAttrs_list PySem.F.slot_list_index PySem.F.type_list_index mt_indexL (pv 3) (pa_cons (pe_ix (ix_tupK (K := K) rfl) (pv 0) pe_int (fun _ _ => rfl)) pa_nil)) pe_int) (fun _ _ => rfl)) (pa_cons (pe_ix (ix_tupK (K := K) rfl) (pv 0) pe_int (fun _ _ => rfl)) pa_nil)))))))))))), ?_⟩
  have hT' := hT
  cases c with
  | nt x =>
   obtain ⟨a, vx, rfl, h, t⟩ := hT
   simp only [Cn.dp] at hd
   refine ⟨_, rfl, a, _, _, _, rfl, rfl, SqT.of h, rfl, rfl, _, rfl, ite2 (fun _ => ?_) (fun z => absurd (decide_eq_true rfl) z)⟩
   refine ⟨_, rfl, a, _, _, _, rfl, rfl, SqT.of h, rfl, _, rfl, _, rfl, x, vx, !bb, rfl, t, by omega, ok, fun r H1 s1 t1 => q r H1 s1 ?_⟩
   cases bb
   ·exact t1
   ·exact t1
  | cmp l sg r =>
   obtain ⟨a, b, rfl, h, t⟩ := hT
   refine ⟨_, rfl, a, _, _, _, rfl, rfl, SqT.of h, rfl, rfl, _, rfl, ite2 (fun z => absurd z (sne n_cn)) (fun _ => ?_)⟩
   refine ⟨_, rfl, a, _, _, _, rfl, rfl, SqT.of h, rfl, rfl, _, rfl, iteF ?_⟩
   cases bb with
   | false =>
    refine ⟨_, rfl, _, rfl, iteT ⟨_, rfl, q _ _ (Same.refl _) hT'⟩⟩
   | true =>
    refine ⟨_, rfl, _, rfl, iteF ?_⟩
    obtain ⟨j, hj, hno, hv⟩ := sg_at2 ok.2.1
    refine ⟨small_line (show 6 ≤ 100000 by decide), fun e he => ?_⟩
    have se : Same H (upd H e (.lst (sgs2.map V.str))) := Same.new he
    refine ⟨_, rfl, a, _, _, _, rfl, rfl, SqT.of (se _ _ h), rfl, ?_⟩
    refine ⟨_, rfl, _, rfl, .inl ⟨rfl, _, SqL.of upd_same⟩, _, rfl, a, _, _, _, rfl, rfl, SqT.of (se _ _ h), rfl, e, sgs2, sg, j, rfl, rfl, upd_same, by decide, hj, hno, _, _, rfl, rfl, ?_⟩
    refine ⟨e, sgs2.map V.str, _, _, rfl, rfl, SqL.of upd_same, hv, ?_⟩
    refine ⟨_, rfl, a, _, _, _, rfl, rfl, SqT.of (se _ _ h), rfl, small_line (show 4 ≤ 100000 by decide), fun u hu => ?_⟩
    exact q _ _ (se.trans (Same.new hu)) ⟨u, b, rfl, upd_same, t.same (se.trans (Same.new hu))⟩
  | an x y =>
   obtain ⟨a, vx, vy, rfl, h, t, t2⟩ := hT
   simp only [Cn.dp] at hd
   refine ⟨_, rfl, a, _, _, _, rfl, rfl, SqT.of h, rfl, rfl, _, rfl, ite2 (fun z => absurd z (sne n_an)) (fun _ => ?_)⟩
   refine ⟨_, rfl, a, _, _, _, rfl, rfl, SqT.of h, rfl, rfl, _, rfl, ite2 (fun _ => ?_) (fun z => absurd (by rw [decide_eq_false fun e => absurd (decide_eq_true e) (sne n_ac)]; rfl) z)⟩
   refine ⟨_, rfl, a, _, _, _, rfl, rfl, SqT.of h, rfl, ?_⟩
   cases bb with
   | false =>
    refine ⟨_, rfl, _, rfl, iteF ?_⟩
    refine ⟨_, rfl, _, rfl, a, _, _, _, rfl, rfl, SqT.of h, rfl, _, rfl, x, vx, false, rfl, t, by omega, ok.1, fun r1 H1 s1 t1 => ?_⟩
    refine ⟨_, rfl, a, _, _, _, rfl, rfl, SqT.of (s1 _ _ h), rfl, _, rfl, y, vy, false, rfl, t2.same s1, by omega, ok.2, fun r2 H2 s2 t3 => ?_⟩
    refine ⟨small_line (show 3 ≤ 100000 by decide), fun u hu => ?_⟩
    exact q _ _ ((s1.trans s2).trans (Same.new hu)) ⟨u, r1, r2, rfl, upd_same, t1.same (s2.trans (Same.new hu)), t3.same (Same.new hu)⟩
   | true =>
    refine ⟨_, rfl, _, rfl, iteT ?_⟩
    refine ⟨small_line (show 2 ≤ 100000 by decide), fun e he => ?_⟩
    have se : Same H (upd H e (.lst [.str "and", .str "or"])) := Same.new he
    refine ⟨_, rfl, a, _, _, _, rfl, rfl, SqT.of (se _ _ h), rfl, rfl, .inr ⟨_, rfl, e, [.str "and", .str "or"], _, .str "or", rfl, rfl, SqL.of upd_same, by decide +kernel, ?_⟩⟩
    refine ⟨_, rfl, _, rfl, a, _, _, _, rfl, rfl, SqT.of (se _ _ h), rfl, _, rfl, x, vx, true, rfl, t.same se, by omega, ok.1, fun r1 H1 s1 t1 => ?_⟩
    refine ⟨_, rfl, a, _, _, _, rfl, rfl, SqT.of (s1 _ _ (se _ _ h)), rfl, _, rfl, y, vy, true, rfl, t2.same (se.trans s1), by omega, ok.2, fun r2 H2 s2 t3 => ?_⟩
    refine ⟨small_line (show 3 ≤ 100000 by decide), fun u hu => ?_⟩
    exact q _ _ (((se.trans s1).trans s2).trans (Same.new hu)) ⟨u, r1, r2, rfl, upd_same, t1.same (s2.trans (Same.new hu)), t3.same (Same.new hu)⟩
  | or x y =>
   obtain ⟨a, vx, vy, rfl, h, t, t2⟩ := hT
   simp only [Cn.dp] at hd
   refine ⟨_, rfl, a, _, _, _, rfl, rfl, SqT.of h, rfl, rfl, _, rfl, ite2 (fun z => absurd z (sne n_on)) (fun _ => ?_)⟩
   refine ⟨_, rfl, a, _, _, _, rfl, rfl, SqT.of h, rfl, rfl, _, rfl, ite2 (fun _ => ?_) (fun z => absurd (by rw [decide_eq_false fun e => absurd (decide_eq_true e) (sne n_oc)]; rfl) z)⟩
   refine ⟨_, rfl, a, _, _, _, rfl, rfl, SqT.of h, rfl, ?_⟩
   cases bb with
   | false =>
    refine ⟨_, rfl, _, rfl, iteF ?_⟩
    refine ⟨_, rfl, _, rfl, a, _, _, _, rfl, rfl, SqT.of h, rfl, _, rfl, x, vx, false, rfl, t, by omega, ok.1, fun r1 H1 s1 t1 => ?_⟩
    refine ⟨_, rfl, a, _, _, _, rfl, rfl, SqT.of (s1 _ _ h), rfl, _, rfl, y, vy, false, rfl, t2.same s1, by omega, ok.2, fun r2 H2 s2 t3 => ?_⟩
    refine ⟨small_line (show 3 ≤ 100000 by decide), fun u hu => ?_⟩
    exact q _ _ ((s1.trans s2).trans (Same.new hu)) ⟨u, r1, r2, rfl, upd_same, t1.same (s2.trans (Same.new hu)), t3.same (Same.new hu)⟩
   | true =>
    refine ⟨_, rfl, _, rfl, iteT ?_⟩
    refine ⟨small_line (show 2 ≤ 100000 by decide), fun e he => ?_⟩
    have se : Same H (upd H e (.lst [.str "and", .str "or"])) := Same.new he
    refine ⟨_, rfl, a, _, _, _, rfl, rfl, SqT.of (se _ _ h), rfl, rfl, .inr ⟨_, rfl, e, [.str "and", .str "or"], _, .str "and", rfl, rfl, SqL.of upd_same, by decide +kernel, ?_⟩⟩
    refine ⟨_, rfl, _, rfl, a, _, _, _, rfl, rfl, SqT.of (se _ _ h), rfl, _, rfl, x, vx, true, rfl, t.same se, by omega, ok.1, fun r1 H1 s1 t1 => ?_⟩
    refine ⟨_, rfl, a, _, _, _, rfl, rfl, SqT.of (s1 _ _ (se _ _ h)), rfl, _, rfl, y, vy, true, rfl, t2.same (se.trans s1), by omega, ok.2, fun r2 H2 s2 t3 => ?_⟩
    refine ⟨small_line (show 3 ≤ 100000 by decide), fun u hu => ?_⟩
    exact q _ _ (((se.trans s1).trans s2).trans (Same.new hu)) ⟨u, r1, r2, rfl, upd_same, t1.same (s2.trans (Same.new hu)), t3.same (Same.new hu)⟩
theorem ok__law_plain (T : Txt w K mg) : ∀ d, FnOk P w K mg base CX0 (1 + d) T._law_plain.f T._law_plain.fd ["_law_told", "_law_turned_here"] (sp_plain d)
 | 0 => fn_never fun _ _ _ _ ⟨_, _, _, _, _, h, _⟩ => no_dp h
 | d + 1 => st__law_plain T (ok__law_plain T d)
end
theorem fault_comps (κ : Row) : ∀ c : Cn, c.fault κ = c.comps.findSome? (·.fault κ)
 | .cmp l s r => by
  simp only [Cn.comps, List.findSome?_cons, List.findSome?_nil]
  cases (Cn.cmp l s r).fault κ <;> rfl
 | .an a b => by
  rw [fault_an, Cn.comps, List.findSome?_append, ← fault_comps κ a, ← fault_comps κ b]
  simp only [List.findSome?_cons, List.findSome?_nil]
  cases a.fault κ <;> cases b.fault κ <;> rfl
 | .or a b => by
  rw [fault_or, Cn.comps, List.findSome?_append, ← fault_comps κ a, ← fault_comps κ b]
  simp only [List.findSome?_cons, List.findSome?_nil]
  cases a.fault κ <;> cases b.fault κ <;> rfl
 | .nt a => by
  rw [fault_nt, Cn.comps, ← fault_comps κ a]
  simp only [List.findSome?_cons, List.findSome?_nil]
  cases a.fault κ <;> rfl
theorem names_comps : ∀ c : Cn, c.names = c.comps.flatMap (·.names)
 | .cmp l s r => by simp [Cn.comps]
 | .an a b => by rw [Cn.names, Cn.comps, List.flatMap_append, ← names_comps a, ← names_comps b]
 | .or a b => by rw [Cn.names, Cn.comps, List.flatMap_append, ← names_comps a, ← names_comps b]
 | .nt a => by rw [Cn.names, Cn.comps, ← names_comps a]
theorem comps_cmp : ∀ {c x : Cn}, x ∈ c.comps → c.ok → x.k = .cm ∧ x.ok ∧ x.dp = 1
 | .cmp l s r, x, h, ok => by rw [List.mem_singleton.mp h]; exact ⟨rfl, ok, rfl⟩
 | .an a b, x, h, ok => by
  rcases List.mem_append.mp h with h | h
  ·exact comps_cmp h ok.1
  ·exact comps_cmp h ok.2
 | .or a b, x, h, ok => by
  rcases List.mem_append.mp h with h | h
  ·exact comps_cmp h ok.1
  ·exact comps_cmp h ok.2
 | .nt a, x, h, ok => comps_cmp (c := a) h ok
def Tells (o : Option (Bool × Str)) (H : Hp) (Q : VK) : Prop := (o = none → ∀ H', Same H H' → Q .non H') ∧ ∀ b n, o = some (b, n) → ∀ (t : Addr) (H' : Hp), Same H H' → H' t = some (.tup [.str (if b then "column" else "kind"), .str n]) → Q (.ref t) H'
def sp__law_fault (d : Nat) : Sp := fun vs H Q _ => ∃ (c : Cn) (v : V) (a : Addr) (κ : Row), vs = [v, .ref a] ∧ Tld H c v ∧ c.ok ∧ c.dp ≤ d ∧ c.dp ≤ 8 ∧ H a = some (.dK κ) ∧ texts κ ∧ Tells (c.fault κ) H Q
def sp__law_judged (C : KC → Addr) (d : Nat) : Sp := fun vs H Q _ => ∃ (c : Cn) (v : V) (a : Addr) (κ : Row), vs = [v, .ref a] ∧ CO C H c v ∧ c.ok ∧ c.dp ≤ d ∧ H a = some (.dK κ) ∧ texts κ ∧ Tells (c.fault κ) H Q
def sp__law_names_within (d : Nat) : Sp := fun vs H Q _ => ∃ (c : Cn) (v : V), vs = [v] ∧ Tld H c v ∧ c.ok ∧ c.dp ≤ d ∧ c.dp ≤ 5 ∧ ∀ l ms H', Same H H' → ms.Perm (onceOf [] c.names) → sortedS ms = true → H' l = some (.lst (ms.map V.str)) → Q (.ref l) H'
def sp__law_parts_right (C : KC → Addr) (d : Nat) : Sp := fun vs H Q _ => ∃ (c : Cn) (u v : V), vs = [u, v] ∧ CO C H c u ∧ Tld H c v ∧ c.dp ≤ d ∧ c.dp ≤ 5 ∧ ∀ H', Same H H' → Q (.bl true) H'
theorem deq {K : PySem.W.Frag} {H : Hp} {c : Cn} {x y : V} (h : c.dp ≤ 5) (a : Tld H c x) (b : Tld H c y) : ∃ ts, (Tl K H (6 + 1) (.tp ts) x ∧ Tl K H (6 + 1) (.tp ts) y) ∨ (Tl K H (6 + 1) (.ls ts) x ∧ Tl K H (6 + 1) (.ls ts) y) := by
 have h1 := a.tl (K := K) 5 h
 have h2 := b.tl (K := K) 5 h
 cases c <;> exact ⟨_, .inl ⟨h1, h2⟩⟩
theorem paired_but {H H' : Hp} {p : Addr} {xs : List V} (hp : H p = some (.lst xs)) (b : But p H H') : ∀ {cs : List Cn} {vs : List V}, Paired (Tld H) cs vs → Paired (Tld H') cs vs
 | _, _, .nil => .nil
 | _, _, .cons a t => .cons (a.but hp b) (paired_but hp b t)
theorem comps_ne : ∀ c : Cn, c.comps ≠ []
 | .cmp l s r => (fun z => nomatch z)
 | .an a b => fun z => comps_ne a (List.append_eq_nil_iff.mp z).1
 | .or a b => fun z => comps_ne a (List.append_eq_nil_iff.mp z).1
 | .nt a => comps_ne a
section
variable {P : Program} {w : World} {K : PySem.W.Frag} {mg : Str → Option Value} {base : Heap}
theorem ok__law_fault (T : Txt w K mg) (d : Nat) : FnOk P w K mg base CX0 (2 + d) T._law_fault.f T._law_fault.fd ["_law_told", "_law_kinds"] (sp__law_fault d) := by
 have G__law_compares : FnOk P w K mg base CX0 (1 + d) T._law_compares.f T._law_compares.fd _ _ := ok__law_compares T d
 have step : FnOk P w K mg base CX0 (1 + d + 1) T._law_fault.f T._law_fault.fd ["_law_told", "_law_kinds"] (sp__law_fault d) := by
  refine T._law_fault.fn.ok sc__law_fault (fun vs H Q E h => ?_) (fun cdv A outer s H vs Q E hr h => ?_)
  ·obtain ⟨_, _, _, _, rfl, _⟩ := h
   rfl
  ·obtain ⟨c, v, va, κ, rfl, hT, ok, hd, h8, hκ, tx, no, yes⟩ := h
   have hu1 := hu_of hr
   rw [fault_comps] at no yes
   refine ⟨_, ((pss_cons (ps_for PassesOwn.never rfl (pi_listK (K := K) rfl (pe_own G__law_compares (hr.mono (by omega)) rfl (pa_cons (pv 0) pa_nil))) (pg_name (i := 2) sc__law_fault.nd rfl (Or.inl rfl)) (pss_cons (ps_if (pt_cmp (pc_dnotin hu1 (pe_ix (ix_tupK (K := K) rfl) (pv 2) pe_int (fun _ _ => rfl)) (pv 1))) (pss_one (ps_ret (pe_tup (pa_cons pe_str (pa_cons (pe_ix (ix_tupK (K := K) rfl) (pv 2) pe_int (fun _ _ => rfl)) pa_nil))))) pss_nil)
   (pss_cons (ps_set (i := 3) sc__law_fault.nd rfl (Or.inl rfl) (pe_ix (ix_listK (K := K) rfl) (pe_lst (pa_cons pe_str (pa_cons pe_str pa_nil))) (pe_callTy call_int1 (by rfl) T.b_int bt_int (pa_cons (pe_callB (call_isiTK (K := K) rfl) (by rfl) T.b_isinstance bt_isinstance (pa_cons (pe_ix (ix_tupK (K := K) rfl) (pe_ix (ix_tupK (K := K) rfl) (pv 2) pe_int (fun _ _ => rfl)) pe_int (fun _ _ => rfl)) (pa_cons (pe_bltn (v := .ty "str") rfl T.b_str bt_str rfl) pa_nil))) pa_nil)) (fun _ _ => rfl)))
   (pss_cons (ps_if (pt_cmpR op_eq (pe_ix (ix_tupK (K := K) rfl) (pe_ix (ix_tupK (K := K) rfl) (pv 2) pe_int (fun _ _ => rfl)) pe_int (fun _ _ => rfl)) pe_str (nomark _)) (pss_cons (ps_if (pt_cmp (pc_dnotin hu1 (pe_ix (ix_tupK (K := K) rfl) (pe_ix (ix_tupK (K := K) rfl) (pv 2) pe_int (fun _ _ => rfl)) pe_int (fun _ _ => rfl)) (pv 1))) (pss_one (ps_ret (pe_tup (pa_cons pe_str (pa_cons (pe_ix (ix_tupK (K := K) rfl) (pe_ix (ix_tupK (K := K) rfl) (pv 2) pe_int (fun _ _ => rfl)) pe_int (fun _ _ => rfl)) pa_nil))))) pss_nil)
   (pss_one (ps_set (i := 3) sc__law_fault.nd rfl (Or.inl rfl) (pe_dget hu1 (pv 1) (pe_ix (ix_tupK (K := K) rfl) (pe_ix (ix_tupK (K := K) rfl) (pv 2) pe_int (fun _ _ => rfl)) pe_int (fun _ _ => rfl)) (fun _ _ => rfl))))) pss_nil)
   (pss_one (ps_if (pt_cmpR op_ne (pv 3) (pe_dget hu1 (pv 1) (pe_ix (ix_tupK (K := K) rfl) (pv 2) pe_int (fun _ _ => rfl)) (fun _ _ => rfl)) (nomark _)) (pss_one (ps_ret (pe_tup (pa_cons pe_str (pa_cons (pe_ix (ix_tupK (K := K) rfl) (pv 2) pe_int (fun _ _ => rfl)) pa_nil))))) pss_nil))))))
   (pss_one (ps_ret pe_non)))), ?_⟩
   refine ⟨_, rfl, c, v, rfl, hT, hd, h8, fun L us H1 s1 eL pT => ⟨L, rfl, ⟨_, SqL.of eL⟩, ?_⟩⟩
   have ul := Paired.length pT
   refine for_list (K := K) (a := L) (xs := us) (fun i σ H2 => ∃ v2 v3, σ = [some v, some (.ref va), v2, v3] ∧ Same H1 H2 ∧ ∀ j (hj : j < c.comps.length), j < i → c.comps[j].fault κ = none)
    ⟨none, none, rfl, Same.refl _, fun j _ h => absurd h (Nat.not_lt_zero _)⟩ (fun i σ H2 _ ⟨_, _, _, sm, _⟩ => SqL.of (sm _ _ eL)) ?_ ?_
   ·rintro i x' σ H2 hx' ⟨v2, v3, rfl, sm, all⟩
    have hi : i < us.length := (List.getElem?_eq_some_iff.1 hx').1
    have hi2 : i < c.comps.length := by omega
    rw [List.getElem?_eq_getElem hi] at hx'
    cases hx'
    have S2 : Same H H2 := s1.trans sm
    have tl := (Paired.at pT i hi2 hi).same sm
    obtain ⟨kc, okc, _⟩ := comps_cmp (List.getElem_mem hi2) ok
    have fault_i : ∀ z, c.comps[i].fault κ = some z → c.comps.findSome? (·.fault κ) = some z := fun z hz => find_at hi2 all hz
    generalize hci : c.comps[i] = ci at tl kc okc fault_i
    obtain ⟨l, sg, r, rfl⟩ := cmp_of kc
    obtain ⟨a, b, ea, h, t⟩ := tl
    have hκ2 := S2 _ _ hκ
    have next : (Cn.cmp l sg r).fault κ = none → ∀ j (hj : j < c.comps.length), j < i + 1 → c.comps[j].fault κ = none := fun fn j hj hji => by
     rcases Nat.lt_succ_iff_lt_or_eq.mp hji with h | h
     ·exact all j hj h
     ·subst h
      rw [hci]
      exact fn
    rw [ea]
    cases lk : look κ l with
    | none =>
     refine ⟨_, rfl, a, _, _, _, rfl, rfl, SqT.of h, rfl, _, rfl, va, _, rfl, look_no2 hκ2 lk, _, rfl, iteT ?_⟩
     refine ⟨_, rfl, a, _, _, _, rfl, rfl, SqT.of h, rfl, small_line (show 2 ≤ 100000 by decide), fun u hu => ?_⟩
     exact yes true l (fault_i _ (by simp only [Cn.fault, lk])) u _ (S2.trans (Same.new hu)) upd_same
    | some x =>
     obtain ⟨xk, rfl⟩ := look_text tx lk
     refine ⟨_, rfl, a, _, _, _, rfl, rfl, SqT.of h, rfl, _, rfl, va, _, rfl, look_get hκ2 lk, _, rfl, iteF ?_⟩
     refine ⟨small_line (show 2 ≤ 100000 by decide), fun e he => ?_⟩
     have se : Same H2 (upd H2 e (.lst [.str "number", .str "word"])) := Same.new he
     have h' := se _ _ h
     have t' := t.same se
     have hκ3 := se _ _ hκ2
     have S3 := S2.trans se
     cases r with
     | col n =>
      refine ⟨_, rfl, a, _, _, _, rfl, rfl, SqT.of h', rfl, b, _, _, _, rfl, rfl, SqT.of t', rfl, _, _, _, _, rfl, .str n, kit_same, .inr ⟨_, rfl, e, _, _, .str "word", rfl, rfl, SqL.of upd_same, rfl, ?_⟩⟩
      refine ⟨_, rfl, a, _, _, _, rfl, rfl, SqT.of h', rfl, b, _, _, _, rfl, rfl, SqT.of t', rfl, rfl, _, rfl, ite2 (fun _ => ?_) (fun z => absurd (decide_eq_true rfl) z)⟩
      cases lk2 : look κ n with
      | none =>
       refine ⟨_, rfl, a, _, _, _, rfl, rfl, SqT.of h', rfl, b, _, _, _, rfl, rfl, SqT.of t', rfl, _, rfl, va, _, rfl, look_no2 hκ3 lk2, _, rfl, iteT ?_⟩
       refine ⟨_, rfl, a, _, _, _, rfl, rfl, SqT.of h', rfl, b, _, _, _, rfl, rfl, SqT.of t', rfl, small_line (show 2 ≤ 100000 by decide), fun u hu => ?_⟩
       exact yes true n (fault_i _ (by simp only [Cn.fault, lk, At.kd, lk2])) u _ (S3.trans (Same.new hu)) upd_same
      | some y =>
       obtain ⟨yk, rfl⟩ := look_text tx lk2
       refine ⟨_, rfl, a, _, _, _, rfl, rfl, SqT.of h', rfl, b, _, _, _, rfl, rfl, SqT.of t', rfl, _, rfl, va, _, rfl, look_get hκ3 lk2, _, rfl, iteF ?_⟩
       refine ⟨_, rfl, _, rfl, a, _, _, _, rfl, rfl, SqT.of h', rfl, b, _, _, _, rfl, rfl, SqT.of t', rfl, va, _, rfl, look_get hκ3 lk2, ?_⟩
       refine ⟨_, rfl, _, rfl, _, rfl, a, _, _, _, rfl, rfl, SqT.of h', rfl, va, _, rfl, look_get hκ3 lk, rfl, _, rfl, ite2 (fun z => ?_) (fun z => ?_)⟩
       ·refine ⟨_, rfl, a, _, _, _, rfl, rfl, SqT.of h', rfl, small_line (show 2 ≤ 100000 by decide), fun u hu => ?_⟩
        have ne : ¬ V.str xk = V.str yk := fun e => by rw [decide_eq_true e.symm] at z; cases z
        exact yes false l (fault_i _ (by simp only [Cn.fault, lk, At.kd, lk2]; rw [if_neg ne])) u _ (S3.trans (Same.new hu)) upd_same
       ·have eq : V.str xk = V.str yk := Classical.byContradiction fun e => z (dec_ne fun e' => e e'.symm)
        exact ⟨_, _, rfl, sm.trans se, next (by simp only [Cn.fault, lk, At.kd, lk2]; rw [if_pos eq])⟩
     | num k =>
      refine ⟨_, rfl, a, _, _, _, rfl, rfl, SqT.of h', rfl, b, _, _, _, rfl, rfl, SqT.of t', rfl, _, _, _, _, rfl, .int k, (show PySem.W.kitOne K (.type "int") (.type "str") = some false by rfl), .inr ⟨_, rfl, e, _, _, .str "number", rfl, rfl, SqL.of upd_same, rfl, ?_⟩⟩
      refine ⟨_, rfl, a, _, _, _, rfl, rfl, SqT.of h', rfl, b, _, _, _, rfl, rfl, SqT.of t', rfl, rfl, _, rfl, ite2 (fun z => absurd (of_decide_eq_true z) not_col) (fun _ => ?_)⟩
      refine ⟨_, rfl, _, rfl, _, rfl, a, _, _, _, rfl, rfl, SqT.of h', rfl, va, _, rfl, look_get hκ3 lk, rfl, _, rfl, ite2 (fun z => ?_) (fun z => ?_)⟩
      ·refine ⟨_, rfl, a, _, _, _, rfl, rfl, SqT.of h', rfl, small_line (show 2 ≤ 100000 by decide), fun u hu => ?_⟩
       have ne : ¬ V.str xk = V.str "number" := fun e => by rw [decide_eq_true e.symm] at z; cases z
       exact yes false l (fault_i _ (by simp only [Cn.fault, lk, At.kd]; rw [if_neg ne])) u _ (S3.trans (Same.new hu)) upd_same
      ·have eq : V.str xk = V.str "number" := Classical.byContradiction fun e => z (dec_ne fun e' => e e'.symm)
       exact ⟨_, _, rfl, sm.trans se, next (by simp only [Cn.fault, lk, At.kd]; rw [if_pos eq])⟩
     | wrd k =>
      refine ⟨_, rfl, a, _, _, _, rfl, rfl, SqT.of h', rfl, b, _, _, _, rfl, rfl, SqT.of t', rfl, _, _, _, _, rfl, .str k, kit_same, .inr ⟨_, rfl, e, _, _, .str "word", rfl, rfl, SqL.of upd_same, rfl, ?_⟩⟩
      refine ⟨_, rfl, a, _, _, _, rfl, rfl, SqT.of h', rfl, b, _, _, _, rfl, rfl, SqT.of t', rfl, rfl, _, rfl, ite2 (fun z => absurd (of_decide_eq_true z) not_col) (fun _ => ?_)⟩
      refine ⟨_, rfl, _, rfl, _, rfl, a, _, _, _, rfl, rfl, SqT.of h', rfl, va, _, rfl, look_get hκ3 lk, rfl, _, rfl, ite2 (fun z => ?_) (fun z => ?_)⟩
      ·refine ⟨_, rfl, a, _, _, _, rfl, rfl, SqT.of h', rfl, small_line (show 2 ≤ 100000 by decide), fun u hu => ?_⟩
       have ne : ¬ V.str xk = V.str "word" := fun e => by rw [decide_eq_true e.symm] at z; cases z
       exact yes false l (fault_i _ (by simp only [Cn.fault, lk, At.kd]; rw [if_neg ne])) u _ (S3.trans (Same.new hu)) upd_same
      ·have eq : V.str xk = V.str "word" := Classical.byContradiction fun e => z (dec_ne fun e' => e e'.symm)
       exact ⟨_, _, rfl, sm.trans se, next (by simp only [Cn.fault, lk, At.kd]; rw [if_pos eq])⟩
   ·rintro σ H2 ⟨v2, v3, rfl, sm, all⟩
    exact no (find_no fun j hj => all j hj (by omega)) _ (s1.trans sm)
 exact step.mono (by omega)
theorem ok__law_judged (T : Txt w K mg) (d : Nat) : FnOk P w K mg base CX0 (5 + d) T._law_judged.f T._law_judged.fd ["_law_cond_here", "_law_kinds"] (sp__law_judged (clsOf T) d) := by
 have D_judged : Dy P w K mg base (CX1 P w) (4 + d) "judged" ["self", "kinds"] (clsOf T) (sp_judged (clsOf T) T.C_NoColumn T.C_WrongKind d) := D_judged T d
 have step : FnOk P w K mg base CX0 (4 + d + 1) T._law_judged.f T._law_judged.fd ["_law_cond_here", "_law_kinds"] (sp__law_judged (clsOf T) d) := by
  refine T._law_judged.fn.ok sc__law_judged (fun vs H Q E h => ?_) (fun cdv A outer s H vs Q E hr h => ?_)
  ·obtain ⟨_, _, _, _, rfl, _⟩ := h
   rfl
  ·obtain ⟨c, v, va, κ, rfl, hC, ok, hd, hκ, tx, no, yes⟩ := h
   refine ⟨_, ((pss_cons (ps_set (i := 2) sc__law_judged.nd rfl (Or.inl rfl) pe_non)
   (pss_cons (ps_tryM rfl ⟨rfl, rfl⟩ (fun _ _ => (pss_one (ps_set (i := 2) sc__law_judged.nd rfl (Or.inl rfl) (pe_dynX D_judged rfl (hr.mono (by omega)) (pv 0) (pa_cons (pv 1) pa_nil))))) (hnd_cons (i := 3) rfl rfl rfl ⟨rfl, rfl⟩ rfl T.c_NoColumn sc__law_judged.nd rfl rfl (fun _ _ => (pss_one (ps_set (i := 2) sc__law_judged.nd rfl (Or.inl rfl) (pe_tup (pa_cons pe_str (pa_cons (pe_xfld (K := K) rfl (pv 3) rfl) pa_nil)))))) (hnd_cons (i := 3) rfl rfl rfl ⟨rfl, rfl⟩ rfl T.c_WrongKind sc__law_judged.nd rfl rfl (fun _ _ => (pss_one (ps_set (i := 2) sc__law_judged.nd rfl (Or.inl rfl) (pe_tup (pa_cons pe_str (pa_cons (pe_xfld (K := K) rfl (pv 3) rfl) pa_nil)))))) hnd_nil)))
   (pss_one (ps_ret (pv 2)))))), ?_⟩
   obtain ⟨a1, d1, f1, e1, e2, e3⟩ := hC.at "judged" nf_judged
   refine ⟨_, rfl, c.k, a1, d1, f1, e1, e2, e3, _, rfl, c, v, va, κ, rfl, rfl, hd, hC, ok, hκ, tx, fun fn H' s' => ⟨_, rfl, no fn H' s'⟩, fun b n fs => ?_⟩
   cases b with
   | true =>
    intro dd H' s' ed
    refine ⟨⟨_, rfl⟩, T.C_NoColumn, rfl, .inl ⟨T.e_cc, fun a ha => ?_⟩⟩
    have sa : Same H' (upd H' a (excX a T.C_NoColumn (some dd) false)) := Same.new ha
    refine ⟨_, rfl, a, T.C_NoColumn, dd, false, _, _, rfl, upd_same, sa _ _ ed, T.g_NoColumn_name, rfl, small_line (show 2 ≤ 100000 by decide), fun u hu => ⟨_, rfl, ?_⟩⟩
    exact yes true n fs u _ ((s'.trans sa).trans (Same.new hu)) upd_same
   | false =>
    intro dd H' s' ed
    refine ⟨⟨_, rfl⟩, T.C_WrongKind, rfl, .inr ⟨T.e_wc, T.C_WrongKind, rfl, .inl ⟨T.e_ww, fun a ha => ?_⟩⟩⟩
    have sa : Same H' (upd H' a (excX a T.C_WrongKind (some dd) false)) := Same.new ha
    refine ⟨_, rfl, a, T.C_WrongKind, dd, false, _, _, rfl, upd_same, sa _ _ ed, T.g_WrongKind_name, rfl, small_line (show 2 ≤ 100000 by decide), fun u hu => ⟨_, rfl, ?_⟩⟩
    exact yes false n fs u _ ((s'.trans sa).trans (Same.new hu)) upd_same
 exact step.mono (by omega)
theorem ok__law_names_within (T : Txt w K mg) (d : Nat) : FnOk P w K mg base CX0 (2 + d) T._law_names_within.f T._law_names_within.fd ["_law_told"] (sp__law_names_within d) := by
 have G__law_compares : FnOk P w K mg base CX0 (1 + d) T._law_compares.f T._law_compares.fd _ _ := ok__law_compares T d
 have step : FnOk P w K mg base CX0 (1 + d + 1) T._law_names_within.f T._law_names_within.fd ["_law_told"] (sp__law_names_within d) := by
  refine T._law_names_within.fn.ok sc__law_names_within (fun vs H Q E h => ?_) (fun cdv A outer s H vs Q E hr h => ?_)
  ·obtain ⟨_, _, rfl, _⟩ := h
   rfl
  ·obtain ⟨c, v, rfl, hT, ok, hd, h5, q⟩ := h
   refine ⟨_, ((pss_cons (ps_set (i := 1) sc__law_names_within.nd rfl (Or.inl rfl) (pe_lst pa_nil))
   (pss_cons (ps_for PassesOwn.never rfl (pi_listK (K := K) rfl (pe_own G__law_compares (hr.mono (by omega)) rfl (pa_cons (pv 0) pa_nil))) (pg_name (i := 2) sc__law_names_within.nd rfl (Or.inl rfl)) (pss_cons (ps_expr (pe_bmK (K := K) rfl PySem.F.plainAttrs_list PySem.F.slot_list_append PySem.F.type_list_append mt_append (pv 1) (pa_cons (pe_ix (ix_tupK (K := K) rfl) (pv 2) pe_int (fun _ _ => rfl)) pa_nil)))
   (pss_one (ps_if (pt_cmpR op_eq (pe_ix (ix_tupK (K := K) rfl) (pe_ix (ix_tupK (K := K) rfl) (pv 2) pe_int (fun _ _ => rfl)) pe_int (fun _ _ => rfl)) pe_str (nomark _)) (pss_one (ps_expr (pe_bmK (K := K) rfl PySem.F.plainAttrs_list PySem.F.slot_list_append PySem.F.type_list_append mt_append (pv 1) (pa_cons (pe_ix (ix_tupK (K := K) rfl) (pe_ix (ix_tupK (K := K) rfl) (pv 2) pe_int (fun _ _ => rfl)) pe_int (fun _ _ => rfl)) pa_nil)))) pss_nil))))
   (pss_one (ps_ret (pe_callB (call_sortedX rfl) (by rfl) T.b_sorted bt_sorted (pa_cons (pe_callTy (call_setX rfl) (by rfl) T.b_set bt_set (pa_cons (pv 1) pa_nil)) pa_nil))))))), ?_⟩
   refine ⟨small_line (show 0 ≤ 100000 by decide), fun n hn => ?_⟩
   have sn : Same H (upd H n (.lst [])) := Same.new hn
   refine ⟨_, rfl, c, v, rfl, hT.same sn, hd, by omega, fun L us H1 s1 eL pT => ⟨L, rfl, ⟨_, SqL.of eL⟩, ?_⟩⟩
   have hn1 : H1 n = some (.lst []) := s1 _ _ upd_same
   have S1 : Same H H1 := sn.trans s1
   have ul := Paired.length pT
   have nl := Nat.le_trans (names_len c) (Nat.pow_le_pow_right (n := 2) (by decide) h5)
   ·have em : us ≠ [] := fun z => comps_ne c (by rw [z] at ul; exact List.length_eq_zero_iff.mp ul)
    have nL : n ≠ L := fun z => by
     rw [← z, hn1] at eL
     injection eL with eL
     injection eL with eL
     exact em eL.symm
    refine for_list (K := K) (a := L) (xs := us) (fun i σ H2 => ∃ v2, σ = [some v, some (.ref n), v2] ∧ Same H H2 ∧ H2 L = some (.lst us) ∧ Paired (Tld H2) c.comps us ∧ H2 n = some (.lst (((c.comps.take i).flatMap (·.names)).map V.str)))
     ⟨none, rfl, S1, eL, pT, hn1⟩ (fun i σ H2 _ ⟨_, _, _, e, _⟩ => SqL.of e) ?_ ?_
    ·rintro i x' σ H2 hx' ⟨v2, rfl, S2, eL2, pT2, eN⟩
     have hi : i < us.length := (List.getElem?_eq_some_iff.1 hx').1
     have hi2 : i < c.comps.length := by omega
     rw [List.getElem?_eq_getElem hi] at hx'
     cases hx'
     have tl := Paired.at pT2 i hi2 hi
     obtain ⟨kc, okc, _⟩ := comps_cmp (List.getElem_mem hi2) ok
     have tk : (c.comps.take (i + 1)).flatMap (·.names) = (c.comps.take i).flatMap (·.names) ++ c.comps[i].names := by
      rw [List.take_succ_eq_append_getElem hi2, List.flatMap_append, List.flatMap_singleton]
     have len1 : ((c.comps.take (i + 1)).flatMap (·.names)).length ≤ 32 := by
      have : (c.comps.flatMap (·.names)) = (c.comps.take (i + 1)).flatMap (·.names) ++ (c.comps.drop (i + 1)).flatMap (·.names) := by rw [← List.flatMap_append, List.take_append_drop]
      rw [names_comps, this, List.length_append] at nl
      omega
     rw [tk] at len1 ⊢
     generalize hci : c.comps[i] = ci at tl kc okc tk len1
     obtain ⟨l, sg, r, rfl⟩ := cmp_of kc
     obtain ⟨a, b, ea, h, t⟩ := tl
     rw [ea]
     generalize (c.comps.take i).flatMap (·.names) = acc at eN len1 ⊢
     rw [List.length_append] at len1
     have l1 : acc.length + 1 ≤ 32 := by
      have : 1 ≤ (Cn.cmp l sg r).names.length := by simp [Cn.names]
      omega
     refine ⟨_, rfl, .inl ⟨rfl, _, SqL.of eN⟩, _, rfl, a, _, _, _, rfl, rfl, SqT.of h, rfl, n, _, _, rfl, rfl, eN, by rw [List.length_map]; exact small_line1 (by omega), ?_⟩
     have ne1 := tup_ne h eN
     have ne2 := tup_ne t eN
     have h3 : upd H2 n (.lst (acc.map V.str ++ [.str l])) a = some (.tup [.str "compare", .str l, .str sg, .ref b]) := by rw [upd_ne ne1]; exact h
     have t3 : upd H2 n (.lst (acc.map V.str ++ [.str l])) b = some (.tup [.str r.w, r.v]) := by rw [upd_ne ne2]; exact t
     have pT3 : Paired (Tld (upd H2 n (.lst (acc.map V.str ++ [.str l])))) c.comps us := paired_but eN (But.upd _ _ _) pT2
     refine ⟨_, rfl, a, _, _, _, rfl, rfl, SqT.of h3, rfl, b, _, _, _, rfl, rfl, SqT.of t3, rfl, rfl, _, rfl, ?_⟩
     cases r with
     | col m =>
      refine ite2 (fun _ => ?_) (fun z => absurd (decide_eq_true rfl) z)
      refine ⟨_, rfl, .inl ⟨rfl, _, SqL.of upd_same⟩, _, rfl, a, _, _, _, rfl, rfl, SqT.of h3, rfl, b, _, _, _, rfl, rfl, SqT.of t3, rfl, n, _, _, rfl, rfl, upd_same, by rw [List.length_append, List.length_map]; exact small_line1 (by simp only [List.length_cons, List.length_nil]; omega), ?_⟩
      rw [upd_upd]
      refine ⟨_, rfl, S2.upd hn, by rw [upd_ne nL.symm]; exact eL2, paired_but eN (But.upd _ _ _) pT2, ?_⟩
      rw [upd_same, List.map_append, List.append_assoc]
      rfl
     | num k =>
      refine ite2 (fun z => absurd (of_decide_eq_true z) not_col) (fun _ => ?_)
      exact ⟨_, rfl, S2.upd hn, by rw [upd_ne nL.symm]; exact eL2, pT3, by rw [upd_same, List.map_append]; rfl⟩
     | wrd k =>
      refine ite2 (fun z => absurd (of_decide_eq_true z) not_col) (fun _ => ?_)
      exact ⟨_, rfl, S2.upd hn, by rw [upd_ne nL.symm]; exact eL2, pT3, by rw [upd_same, List.map_append]; rfl⟩
    ·rintro σ H2 ⟨v2, rfl, S2, eL2, pT2, eN⟩
     rw [← ul, List.take_length, ← names_comps] at eN
     refine ⟨_, rfl, n, c.names, rfl, SqL.of eN, by omega, fun z hz => ?_⟩
     have ol := once_len c.names []
     simp only [List.length_nil] at ol
     refine ⟨z, _, rfl, upd_same, by omega, fun u ms hu pm so => ?_⟩
     exact q u ms _ ((S2.trans (Same.new hz)).trans (Same.new hu)) pm so upd_same
 exact step.mono (by omega)
end
def kinds (cs : List Col) : Row := cs.map fun c => ((.inr c.1 : Key), V.str c.2)
def rowInts : List V := [.int 0, .int 1, .int 2, .int 3, .int (-1), .int (10 ^ (9 : Int).toNat), .int (-(10 ^ (9 : Int).toNat)), .int 70]
def rowStrs : List V := [.str "a", .str "b", .str "ab", .str "not", .str "zzzzzzzz"]
def rowV (c : Int) (k : Nat) (kd : Str) : V := if kd = "word" then (atI rowStrs (mixV c (50 + k) % 5)).getD .non else (atI rowInts (mixV c (50 + k) % 8)).getD .non
def rowF (c : Int) (cs : List Col) (k : Nat) : Key × V := (.inr (cs.getD k ("", "")).1, rowV c k (cs.getD k ("", "")).2)
def rowOf (c : Int) (cs : List Col) : Row := (List.range cs.length).map (rowF c cs)
theorem rowV_kind (c : Int) (k : Nat) {kd : Str} (h : kd = "number" ∨ kd = "word") : (kd = "number" → ∃ i : Int, rowV c k kd = .int i) ∧ (kd = "word" → ∃ x : Str, rowV c k kd = .str x) := by
 constructor
 ·rintro rfl
  have m8 := emod_in (x := mixV c (50 + k)) (n := 8) (by decide)
  obtain ⟨x, ax, mx⟩ := atI_mem (xs := rowInts) m8.1 m8.2
  obtain ⟨i, rfl, _⟩ := row_ints mx
  refine ⟨i, ?_⟩
  unfold rowV
  rw [if_neg (by decide +kernel)]
  show (atI rowInts (mixV c (50 + k) % (8 : Int))).getD .non = _
  rw [show atI rowInts (mixV c (50 + k) % (8 : Int)) = some (.int i) from ax]
  rfl
 ·rintro rfl
  have m5 := emod_in (x := mixV c (50 + k)) (n := 5) (by decide)
  obtain ⟨x, ax, mx⟩ := atI_mem (xs := rowStrs) m5.1 m5.2
  obtain ⟨i, rfl, _⟩ := row_strs mx
  refine ⟨i, ?_⟩
  unfold rowV
  rw [if_pos rfl]
  show (atI rowStrs (mixV c (50 + k) % (5 : Int))).getD .non = _
  rw [show atI rowStrs (mixV c (50 + k) % (5 : Int)) = some (.str i) from ax]
  rfl
theorem getD_at {cs : List Col} {j : Nat} (h : j < cs.length) : cs.getD j ("", "") = cs[j] := by
 rw [List.getD_eq_getElem?_getD, List.getElem?_eq_getElem h]
 rfl
theorem key_inj {cs : List Col} (nd : (cs.map (·.1)).Nodup) {i j : Nat} (hi : i < cs.length) (hj : j < cs.length) (e : (cs.getD i ("", "")).1 = (cs.getD j ("", "")).1) : i = j := by
 rw [getD_at hi, getD_at hj] at e
 exact (List.getElem_inj (h₀ := by simpa using hi) (h₁ := by simpa using hj) nd).mp (by rw [List.getElem_map, List.getElem_map]; exact e)
theorem valV_at {κ : Type} [DecidableEq κ] {l : List (κ × V)} {j : Nat} (hj : j < l.length) (no : ∀ i (hi : i < l.length), i < j → l[i].1 ≠ l[j].1) : valV l l[j].1 = some l[j].2 := by
 unfold valV
 have : l.find? (fun kv => decide (kv.1 = l[j].1)) = some l[j] := by
  rw [List.find?_eq_some_iff_getElem]
  refine ⟨decide_eq_true rfl, j, hj, rfl, fun i hij => ?_⟩
  rw [Bool.not_eq_true', decide_eq_false_iff_not]
  exact no i (by omega) hij
 rw [this]
 rfl
theorem row_look {cs : List Col} (G : GoodCols cs) (c : Int) {j : Nat} (hj : j < cs.length) : look (rowOf c cs) (cs.getD j ("", "")).1 = some (rowV c j (cs.getD j ("", "")).2) := by
 have hl : j < (rowOf c cs).length := by rw [rowOf, List.length_map, List.length_range]; exact hj
 have e : ∀ i (hi : i < (rowOf c cs).length), (rowOf c cs)[i] = rowF c cs i := fun i hi => by simp [rowOf]
 have := valV_at hl fun i hi hij z => ?_
 ·rw [e j hl] at this
  exact this
 ·rw [e i hi, e j hl] at z
  have z : (cs.getD i ("", "")).1 = (cs.getD j ("", "")).1 := by injection z
  have hi' : i < cs.length := by rw [rowOf, List.length_map, List.length_range] at hi; exact hi
  have := key_inj G.nd hi' hj z
  omega
theorem kinds_look {cs : List Col} (G : GoodCols cs) {j : Nat} (hj : j < cs.length) : look (kinds cs) cs[j].1 = some (.str cs[j].2) := by
 have hl : j < (kinds cs).length := by rw [kinds, List.length_map]; exact hj
 have e : ∀ i (hi : i < (kinds cs).length), (kinds cs)[i] = ((.inr (cs[i]'(by rw [kinds, List.length_map] at hi; exact hi)).1 : Key), V.str (cs[i]'(by rw [kinds, List.length_map] at hi; exact hi)).2) := fun i hi => by simp [kinds]
 have := valV_at hl fun i hi hij z => ?_
 ·rw [e j hl] at this
  exact this
 ·rw [e i hi, e j hl] at z
  have hi' : i < cs.length := by rw [kinds, List.length_map] at hi; exact hi
  have z : cs[i].1 = cs[j].1 := by injection z
  have := key_inj G.nd hi' hj (by rw [getD_at hi', getD_at hj]; exact z)
  omega
theorem row_has {cs : List Col} (G : GoodCols cs) (c : Int) {l k : Str} (h : (l, k) ∈ cs) : ∃ v, look (rowOf c cs) l = some v ∧ (k = "number" → ∃ i : Int, v = .int i) ∧ (k = "word" → ∃ x : Str, v = .str x) := by
 obtain ⟨j, hj, e⟩ := List.mem_iff_getElem.mp h
 have r := row_look G c hj
 rw [getD_at hj, e] at r
 have kd := (G.ok _ h).2
 exact ⟨_, r, rowV_kind c j kd⟩
theorem kinds_has {cs : List Col} (G : GoodCols cs) {l k : Str} (h : (l, k) ∈ cs) : look (kinds cs) l = some (.str k) := by
 obtain ⟨j, hj, e⟩ := List.mem_iff_getElem.mp h
 have r := kinds_look G hj
 rw [e] at r
 exact r
theorem good_fits {cs : List Col} (G : GoodCols cs) (c : Int) : ∀ {x : Cn}, goodC cs x → fitsC (rowOf c cs) x
 | .cmp l s r, ⟨_, k, hl, hr⟩ => by
  obtain ⟨v, e, k1, k2⟩ := row_has G c hl
  have kd := (G.ok _ hl).2
  cases r with
  | col n =>
   obtain ⟨v', e', k1', k2'⟩ := row_has G c (show (n, k) ∈ cs from hr)
   refine ⟨v, v', e, e', ?_⟩
   rcases kd with z | z
   ·obtain ⟨i, rfl⟩ := k1 z
    obtain ⟨j, rfl⟩ := k1' z
    rfl
   ·obtain ⟨i, rfl⟩ := k2 z
    obtain ⟨j, rfl⟩ := k2' z
    rfl
  | num i =>
   obtain ⟨j, rfl⟩ := k1 hr.1
   exact ⟨_, _, e, rfl, rfl⟩
  | wrd x =>
   obtain ⟨j, rfl⟩ := k2 hr.1
   exact ⟨_, _, e, rfl, rfl⟩
 | .an a b, h => ⟨good_fits G c h.1, good_fits G c h.2⟩
 | .or a b, h => ⟨good_fits G c h.1, good_fits G c h.2⟩
 | .nt a, h => good_fits (x := a) G c h
theorem good_fault {cs : List Col} (G : GoodCols cs) : ∀ {x : Cn}, goodC cs x → x.fault (kinds cs) = none
 | .cmp l s r, ⟨_, k, hl, hr⟩ => by
  have e := kinds_has G hl
  have e2 : r.kd (kinds cs) = some (.str k) := by
   cases r with
   | col n => exact kinds_has G (show (n, k) ∈ cs from hr)
   | num i => rw [hr.1]; rfl
   | wrd x => rw [hr.1]; rfl
  simp only [Cn.fault, e, e2]
  exact if_pos trivial
 | .an a b, h => by simp only [Cn.fault, good_fault G h.1, good_fault G h.2]
 | .or a b, h => by simp only [Cn.fault, good_fault G h.1, good_fault G h.2]
 | .nt a, h => by simp only [Cn.fault, good_fault (x := a) G h]
theorem good_ok {cs : List Col} (G : GoodCols cs) : ∀ {x : Cn}, goodC cs x → x.ok
 | .cmp l s r, ⟨os, k, hl, hr⟩ => by
  refine ⟨(G.ok _ hl).1, os, ?_⟩
  cases r with
  | col n => exact (G.ok _ (show (n, k) ∈ cs from hr)).1
  | num i => exact hr.2
  | wrd x => exact hr.2
 | .an a b, h => ⟨good_ok G h.1, good_ok G h.2⟩
 | .or a b, h => ⟨good_ok G h.1, good_ok G h.2⟩
 | .nt a, h => good_ok (x := a) G h
theorem row_flat {cs : List Col} (G : GoodCols cs) (c : Int) : ∀ p ∈ rowOf c cs, flatV p.2 = true ∧ eqV p.2 p.2 = true := by
 intro p hp
 obtain ⟨k, hk, rfl⟩ := List.mem_map.mp hp
 have hk := List.mem_range.mp hk
 have kd := (G.ok _ (List.getElem_mem hk)).2
 show flatV (rowV c k (cs.getD k ("", "")).2) = true ∧ eqV (rowV c k (cs.getD k ("", "")).2) (rowV c k (cs.getD k ("", "")).2) = true
 rw [getD_at hk]
 obtain ⟨k1, k2⟩ := rowV_kind c k kd
 rcases kd with z | z
 ·obtain ⟨i, e⟩ := k1 z
  rw [e]
  exact ⟨rfl, beq_self_eq_true i⟩
 ·obtain ⟨x, e⟩ := k2 z
  rw [e]
  exact ⟨rfl, beq_self_eq_true x⟩
theorem kinds_texts (cs : List Col) : texts (kinds cs) := fun p hp => by
 obtain ⟨c, _, rfl⟩ := List.mem_map.mp hp
 exact ⟨_, rfl⟩
theorem drop_texts {κ : Row} (h : texts κ) (k : Key) : texts (dropK κ k) := fun p hp => h p (List.mem_filter.mp hp).1
theorem put_texts {κ : Row} (h : texts κ) (k : Key) (x : Str) : texts (putK κ k (.str x)) := fun p hp => by
 unfold putK at hp
 split at hp
 ·obtain ⟨q, hq, rfl⟩ := List.mem_map.mp hp
  split
  ·exact ⟨x, rfl⟩
  ·exact h q hq
 ·rcases List.mem_append.mp hp with hp | hp
  ·exact h p hp
  ·rw [List.mem_singleton.mp hp]
   exact ⟨x, rfl⟩
def sp__law_row : Sp := fun vs H Q _ => ∃ (c : Int) (L : Addr) (qs : List Addr) (cs : List Col), vs = [.int c, .ref L] ∧ NmsAt H L qs cs ∧ ∀ (D : Addr) (H' : Hp), H D = none → Same H H' → H' D = some (.dK (rowOf c cs)) → Q (.ref D) H'
def sp__law_turned : Sp := fun vs H Q _ => ∃ (a : Addr) (n : Int) (cs : List Col), vs = [.ref a, .int n] ∧ H a = some (.dK (kinds cs)) ∧ GoodCols cs ∧ ∀ (D : Addr) (κ : Row) (H' : Hp), Same H H' → H' D = some (.dK κ) → texts κ → Q (.ref D) H'
theorem val_none {c : Int} {cs : List Col} (G : GoodCols cs) {i : Nat} (hi : i < cs.length) : valV ((List.range i).map (rowF c cs)) (.inr cs[i].1 : Key) = none := by
 unfold valV
 rw [Option.map_eq_none_iff, List.find?_eq_none]
 intro p hp
 obtain ⟨k, hk, rfl⟩ := List.mem_map.mp hp
 have hk := List.mem_range.mp hk
 intro z
 have z := of_decide_eq_true z
 have z : (cs.getD k ("", "")).1 = cs[i].1 := by injection z
 have := key_inj G.nd (i := k) (j := i) (by omega) hi (by rw [getD_at hi]; exact z)
 omega
theorem put_again {r : Row} {k : Key} {x y : V} (h : valV r k = none) : putK (r ++ [(k, x)]) k y = r ++ [(k, y)] := by
 have no : ∀ p ∈ r, p.1 ≠ k := fun p hp e => by
  unfold valV at h
  rw [Option.map_eq_none_iff, List.find?_eq_none] at h
  exact h p hp (decide_eq_true e)
 unfold putK
 rw [if_pos (by rw [List.any_append]; simp), List.map_append]
 congr 1
 ·conv => rhs; rw [← List.map_id r]
  exact List.map_congr_left fun p hp => if_neg (no p hp)
 ·simp
theorem row_put {c : Int} {cs : List Col} (G : GoodCols cs) {i : Nat} (hi : i < cs.length) (x : V) : putK ((List.range i).map (rowF c cs)) (.inr cs[i].1 : Key) x = (List.range i).map (rowF c cs) ++ [(.inr cs[i].1, x)] := putK_new x (val_none G hi)
theorem row_snoc {c : Int} {cs : List Col} {i : Nat} (hi : i < cs.length) : (List.range (i + 1)).map (rowF c cs) = (List.range i).map (rowF c cs) ++ [((.inr cs[i].1 : Key), rowV c i cs[i].2)] := by
 rw [List.range_succ, List.map_append]
 show _ ++ [rowF c cs i] = _
 unfold rowF
 rw [getD_at hi]
section
variable {P : Program} {w : World} {K : PySem.W.Frag} {mg : Str → Option Value} {base : Heap}
theorem st__law_parts_right (T : Txt w K mg) {d : Nat} (h5d : d ≤ 5) (G__law_parts_right : FnOk P w K mg base CX0 (6 + d) T._law_parts_right.f T._law_parts_right.fd ["_law_cond_here", "_law_told"] (sp__law_parts_right (clsOf T) d)) : FnOk P w K mg base CX0 (6 + d + 1) T._law_parts_right.f T._law_parts_right.fd ["_law_cond_here", "_law_told"] (sp__law_parts_right (clsOf T) (d + 1)) := by
 have D_told : Dy P w K mg base CX0 (1 + 5) "told" ["self"] (clsOf T) (sp_told (clsOf T) 5) := D_told T 5
 refine T._law_parts_right.fn.ok sc__law_parts_right (fun vs H Q E h => ?_) (fun cdv A outer s H vs Q E hr h => ?_)
 ·obtain ⟨_, _, _, rfl, _⟩ := h
  rfl
 ·obtain ⟨c, u, v, rfl, hC, hT, hd, h5, q⟩ := h
  have hu3 := hr.units
  have hu7 := hr.units
  replace hu3 : _ + 2 + 1 < cLine := Nat.lt_of_le_of_lt (Nat.add_le_add_left (by decide : 3 ≤ 64) _) hu3
  replace hu7 : _ + 6 + 1 < cLine := Nat.lt_of_le_of_lt (Nat.add_le_add_left (by decide : 7 ≤ 64) _) hu7
  refine ⟨_, ((pss_cons (ps_if (pt_cmpR op_eq (pe_ix (ix_tupK (K := K) rfl) (pv 1) pe_int (fun _ _ => rfl)) pe_str (nomark _)) (pss_one (ps_ret (pe_cmpR (op_eqDK (K := K) (n := 2) rfl hu3) (pe_tup (pa_cons (pe_fldK (K := K) rfl (pv 0) rfl) (pa_cons (pe_fldK (K := K) rfl (pv 0) rfl) (pa_cons (pe_fldK (K := K) rfl (pv 0) rfl) pa_nil)))) (pe_slice (sl_tupK (K := K) rfl) (pv 1) (po_some pe_int) po_none) (nomark _)))) pss_nil)
   (pss_cons (ps_if (pt_cmpR op_eq (pe_ix (ix_tupK (K := K) rfl) (pv 1) pe_int (fun _ _ => rfl)) pe_str (nomark _)) (pss_one (ps_ret (pe_and (pe_cmpR (op_eqDK (K := K) (n := 6) rfl hu7) (pe_dyn0 D_told (hr.mono (by omega)) (pe_fldK (K := K) rfl (pv 0) rfl)) (pe_ix (ix_tupK (K := K) rfl) (pv 1) pe_int (fun _ _ => rfl)) (nomark _)) (pe_one (pe_own G__law_parts_right (hr.mono (by omega)) rfl (pa_cons (pe_fldK (K := K) rfl (pv 0) rfl) (pa_cons (pe_ix (ix_tupK (K := K) rfl) (pv 1) pe_int (fun _ _ => rfl)) pa_nil))))))) pss_nil)
   (pss_one (ps_ret (pe_and (pe_cmpR (op_eqDK (K := K) (n := 6) rfl hu7) (pe_dyn0 D_told (hr.mono (by omega)) (pe_fldK (K := K) rfl (pv 0) rfl)) (pe_ix (ix_tupK (K := K) rfl) (pv 1) pe_int (fun _ _ => rfl)) (nomark _)) (pe_and (pe_cmpR (op_eqDK (K := K) (n := 6) rfl hu7) (pe_dyn0 D_told (hr.mono (by omega)) (pe_fldK (K := K) rfl (pv 0) rfl)) (pe_ix (ix_tupK (K := K) rfl) (pv 1) pe_int (fun _ _ => rfl)) (nomark _)) (pe_one (pe_own G__law_parts_right (hr.mono (by omega)) rfl (pa_cons (pe_fldK (K := K) rfl (pv 0) rfl) (pa_cons (pe_ix (ix_tupK (K := K) rfl) (pv 1) pe_int (fun _ _ => rfl)) pa_nil))))))))))), ?_⟩
  cases c with
  | cmp l sg r =>
   obtain ⟨a, b, rfl, h, t⟩ := hT
   obtain ⟨p, dx, b', rfl, hp, hb⟩ := hC
   refine ⟨_, rfl, a, _, _, _, rfl, rfl, SqT.of h, rfl, rfl, _, rfl, ite2 (fun _ => ?_) (fun z => absurd (decide_eq_true rfl) z)⟩
   refine ⟨_, rfl, p, T.C_Compare, dx, _, _, rfl, hp, T.l_Compare, T.n_Compare_left, cm_l .., ?_⟩
   refine ⟨_, rfl, p, T.C_Compare, dx, _, _, rfl, hp, T.l_Compare, T.n_Compare_sign, cm_s .., ?_⟩
   refine ⟨_, rfl, p, T.C_Compare, dx, _, _, rfl, hp, T.l_Compare, T.n_Compare_right, cm_r .., small_line (show 3 ≤ 100000 by decide), fun e he => ?_⟩
   have se : Same H (upd H e (.tup [.str l, .str sg, .ref b'])) := Same.new he
   refine ⟨_, rfl, _, rfl, a, _, rfl, SqT.of (se _ _ h), (fun z => absurd z.1 (show ¬ HT.sIx 4 0 (some 1) = 0 by decide)), fun e2 he2 => ?_⟩
   have se2 := Same.new (o := .tup [.str l, .str sg, .ref b]) he2
   have S := se.trans se2
   refine ⟨⟨[.fl (.str l), .fl (.str sg), r.d], .inl ⟨⟨e, _, rfl, SqT.of (se2 _ _ upd_same), .cons (tl_str _ _) (.cons (tl_str _ _) (.cons (tl_at 0 (hb.same S)) .nil))⟩, ⟨e2, _, rfl, SqT.of upd_same, .cons (tl_str _ _) (.cons (tl_str _ _) (.cons (tl_at 0 (t.same S)) .nil))⟩⟩⟩, ?_⟩
   exact q _ S
  | nt x =>
   obtain ⟨a, vx, rfl, h, t⟩ := hT
   obtain ⟨p, dx, cx, rfl, hp, hx⟩ := hC
   simp only [Cn.dp] at hd h5
   obtain ⟨a1, d1, f1, e1, e2, e3⟩ := hx.at "told" nf_told
   refine ⟨_, rfl, a, _, _, _, rfl, rfl, SqT.of h, rfl, rfl, _, rfl, ite2 (fun z => absurd z (sne n_nc)) (fun _ => ?_)⟩
   refine ⟨_, rfl, a, _, _, _, rfl, rfl, SqT.of h, rfl, rfl, _, rfl, ite2 (fun _ => ?_) (fun z => absurd (decide_eq_true rfl) z)⟩
   refine ⟨_, rfl, p, T.C_Not, dx, _, _, rfl, hp, T.l_Not, T.n_Not_inside, on_i .., x.k, a1, d1, f1, e1, e2, e3, x, cx, rfl, rfl, by omega, hx, fun r1 H1 s1 t1 => ?_⟩
   refine ⟨_, rfl, a, _, _, _, rfl, rfl, SqT.of (s1 _ _ h), rfl, deq (by omega) t1 (t.same s1), _, rfl, iteT ?_⟩
   exact ⟨_, rfl, p, T.C_Not, dx, _, _, rfl, s1 _ _ hp, T.l_Not, T.n_Not_inside, on_i .., _, rfl, a, _, _, _, rfl, rfl, SqT.of (s1 _ _ h), rfl, x, cx, vx, rfl, hx.same s1, t.same s1, by omega, by omega, fun H2 s2 => q _ (s1.trans s2)⟩
  | an x y =>
   obtain ⟨a, vx, vy, rfl, h, t, t2⟩ := hT
   obtain ⟨p, dx, cx, cy, rfl, hp, hx, hy⟩ := hC
   simp only [Cn.dp] at hd h5
   obtain ⟨a1, d1, f1, e1, e2, e3⟩ := hx.at "told" nf_told
   refine ⟨_, rfl, a, _, _, _, rfl, rfl, SqT.of h, rfl, rfl, _, rfl, ite2 (fun z => absurd z (sne n_ac)) (fun _ => ?_)⟩
   refine ⟨_, rfl, a, _, _, _, rfl, rfl, SqT.of h, rfl, rfl, _, rfl, ite2 (fun z => absurd z (sne n_an)) (fun _ => ?_)⟩
   refine ⟨_, rfl, p, T.C_And, dx, _, _, rfl, hp, T.l_And, T.n_And_first, tw_f .., x.k, a1, d1, f1, e1, e2, e3, x, cx, rfl, rfl, by omega, hx, fun r1 H1 s1 t1 => ?_⟩
   refine ⟨_, rfl, a, _, _, _, rfl, rfl, SqT.of (s1 _ _ h), rfl, deq (by omega) t1 (t.same s1), _, rfl, iteT ?_⟩
   obtain ⟨a2, d2, f2, g1, g2, g3⟩ := (hy.same s1).at "told" nf_told
   refine ⟨_, rfl, p, T.C_And, dx, _, _, rfl, s1 _ _ hp, T.l_And, T.n_And_second, tw_s .., y.k, a2, d2, f2, g1, g2, g3, y, cy, rfl, rfl, by omega, hy.same s1, fun r2 H2 s2 t3 => ?_⟩
   have S := s1.trans s2
   refine ⟨_, rfl, a, _, _, _, rfl, rfl, SqT.of (S _ _ h), rfl, deq (by omega) t3 (t2.same S), _, rfl, iteT ?_⟩
   exact ⟨_, rfl, p, T.C_And, dx, _, _, rfl, S _ _ hp, T.l_And, T.n_And_first, tw_f .., _, rfl, a, _, _, _, rfl, rfl, SqT.of (S _ _ h), rfl, x, cx, vx, rfl, hx.same S, t.same S, by omega, by omega, fun H3 s3 => q _ (S.trans s3)⟩
  | or x y =>
   obtain ⟨a, vx, vy, rfl, h, t, t2⟩ := hT
   obtain ⟨p, dx, cx, cy, rfl, hp, hx, hy⟩ := hC
   simp only [Cn.dp] at hd h5
   obtain ⟨a1, d1, f1, e1, e2, e3⟩ := hx.at "told" nf_told
   refine ⟨_, rfl, a, _, _, _, rfl, rfl, SqT.of h, rfl, rfl, _, rfl, ite2 (fun z => absurd z (sne n_oc)) (fun _ => ?_)⟩
   refine ⟨_, rfl, a, _, _, _, rfl, rfl, SqT.of h, rfl, rfl, _, rfl, ite2 (fun z => absurd z (sne n_on)) (fun _ => ?_)⟩
   refine ⟨_, rfl, p, T.C_Or, dx, _, _, rfl, hp, T.l_Or, T.n_Or_first, tw_f .., x.k, a1, d1, f1, e1, e2, e3, x, cx, rfl, rfl, by omega, hx, fun r1 H1 s1 t1 => ?_⟩
   refine ⟨_, rfl, a, _, _, _, rfl, rfl, SqT.of (s1 _ _ h), rfl, deq (by omega) t1 (t.same s1), _, rfl, iteT ?_⟩
   obtain ⟨a2, d2, f2, g1, g2, g3⟩ := (hy.same s1).at "told" nf_told
   refine ⟨_, rfl, p, T.C_Or, dx, _, _, rfl, s1 _ _ hp, T.l_Or, T.n_Or_second, tw_s .., y.k, a2, d2, f2, g1, g2, g3, y, cy, rfl, rfl, by omega, hy.same s1, fun r2 H2 s2 t3 => ?_⟩
   have S := s1.trans s2
   refine ⟨_, rfl, a, _, _, _, rfl, rfl, SqT.of (S _ _ h), rfl, deq (by omega) t3 (t2.same S), _, rfl, iteT ?_⟩
   exact ⟨_, rfl, p, T.C_Or, dx, _, _, rfl, S _ _ hp, T.l_Or, T.n_Or_first, tw_f .., _, rfl, a, _, _, _, rfl, rfl, SqT.of (S _ _ h), rfl, x, cx, vx, rfl, hx.same S, t.same S, by omega, by omega, fun H3 s3 => q _ (S.trans s3)⟩
theorem ok__law_parts_right (T : Txt w K mg) : ∀ d, d ≤ 6 → FnOk P w K mg base CX0 (6 + d) T._law_parts_right.f T._law_parts_right.fd ["_law_cond_here", "_law_told"] (sp__law_parts_right (clsOf T) d)
 | 0, _ => fn_never fun _ _ _ _ ⟨_, _, _, _, _, _, h, _⟩ => no_dp h
 | d + 1, h => st__law_parts_right T (by omega) (ok__law_parts_right T d (by omega))
theorem ok__law_row (T : Txt w K mg) : FnOk P w K mg base CX0 2 T._law_row.f T._law_row.fd ["_law_cell_here", "_law_names"] sp__law_row := by
 have G__law_mix : FnOk P w K mg base CX0 1 T._law_mix.f T._law_mix.fd _ _ := ok__law_mix T
 refine T._law_row.fn.ok sc__law_row (fun vs H Q E h => ?_) (fun cdv A outer s H vs Q E hr h => ?_)
 ·obtain ⟨_, _, _, _, rfl, _⟩ := h
  rfl
 ·obtain ⟨c, L, qs, cs, rfl, hL, q⟩ := h
  have hu1 := hu_of hr
  have G := hL.g
  have l5 := hL.len
  refine ⟨_, ((pss_cons (ps_set (i := 2) sc__law_row.nd rfl (Or.inl rfl) pe_dnewK)
   (pss_cons (ps_for PassesOwn.never rfl (pi_range1 rfl T.b_range (pa_cons (pe_callB (call_len_seqK (K := K) rfl) (by rfl) T.b_len bt_len (pa_cons (pv 1) pa_nil)) pa_nil)) (pg_name (i := 3) sc__law_row.nd rfl (Or.inl rfl)) (pss_cons (ps_set (i := 4) sc__law_row.nd rfl (Or.inl rfl) (pe_own G__law_mix (hr.mono (by omega)) rfl (pa_cons (pv 0) (pa_cons (pe_op op_add pe_int (pv 3)) pa_nil))))
   (pss_cons (ps_dput hu1 (pv 2) (pe_ix (ix_tupK (K := K) rfl) (pe_ix (ix_listK (K := K) rfl) (pv 1) (pv 3) (fun _ _ => rfl)) pe_int (fun _ _ => rfl)) (pe_ix (ix_listK (K := K) rfl) (pe_lst (pa_cons pe_int (pa_cons pe_int (pa_cons pe_int (pa_cons pe_int (pa_cons (pe_un un_neg pe_int) (pa_cons (pe_op op_pow pe_int pe_int) (pa_cons (pe_un un_neg (pe_op op_pow pe_int pe_int)) (pa_cons pe_int pa_nil))))))))) (pe_op op_mod (pv 4) pe_int) (fun _ _ => rfl)) rfl)
   (pss_one (ps_if (pt_cmpR op_eq (pe_ix (ix_tupK (K := K) rfl) (pe_ix (ix_listK (K := K) rfl) (pv 1) (pv 3) (fun _ _ => rfl)) pe_int (fun _ _ => rfl)) pe_str (nomark _)) (pss_one (ps_dput hu1 (pv 2) (pe_ix (ix_tupK (K := K) rfl) (pe_ix (ix_listK (K := K) rfl) (pv 1) (pv 3) (fun _ _ => rfl)) pe_int (fun _ _ => rfl)) (pe_ix (ix_listK (K := K) rfl) (pe_lst (pa_cons pe_str (pa_cons pe_str (pa_cons pe_str (pa_cons pe_str (pa_cons pe_str pa_nil)))))) (pe_op op_mod (pv 4) pe_int) (fun _ _ => rfl)) rfl)) pss_nil)))))
   (pss_one (ps_ret (pv 2)))))), ?_⟩
  intro D hD
  have sD : Same H (upd H D (.dK [])) := Same.new hD
  refine ⟨_, rfl, _, _, rfl, .inl (SqL.of (sD _ _ hL.l)), _, rfl, by omega, by rw [List.length_map]; omega, for_range (lo := 0) (n := (((qs.map V.ref).length : Nat) : Int).toNat) (fun i σ H2 => ∃ v3 v4, σ = [some (.int c), some (.ref L), some (.ref D), v3, v4] ∧ Same H H2 ∧ H2 D = some (.dK ((List.range i).map (rowF c cs))))
   ⟨none, none, rfl, sD, upd_same⟩ ?_ ?_⟩
  ·rintro i σ H2 hi ⟨v3, v4, rfl, sm, hd⟩
   rw [List.length_map] at hi
   have hiq : i < qs.length := by omega
   have hic : i < cs.length := by rw [← Paired.length hL.c]; exact hiq
   have tq := sm _ _ (Paired.at hL.c i hiq hic)
   have hL2 := sm _ _ hL.l
   have ax : atI (qs.map V.ref) (0 + (i : Int)) = some (.ref qs[i]) := atI_pos (by omega) (by rw [show (0 + (i : Int)).toNat = i by omega, List.getElem?_map, List.getElem?_eq_getElem hiq]; rfl)
   refine ⟨_, rfl, _, rfl, _, _, rfl, rfl, c, _, rfl, by omega, by omega, ?_⟩
   have kk : (50 : Int) + (0 + (i : Int)) = 50 + i := by omega
   dsimp only
   rw [kk]
   refine ⟨_, rfl, _, _, rfl, rfl, ⟨by decide, by decide, by decide⟩, _, _, rfl, rfl, ⟨by decide, by decide, by decide⟩, _, rfl, small_line (show 8 ≤ 100000 by decide), fun e he => ?_⟩
   have m8 := emod_in (x := mixV c (50 + i)) (n := 8) (by decide)
   obtain ⟨x, axr, _⟩ := atI_mem (xs := rowInts) m8.1 m8.2
   have se : Same H2 (upd H2 e (.lst rowInts)) := Same.new he
   refine ⟨_, rfl, _, _, rfl, rfl, (show (0 : Int) < 8 by decide), e, rowInts, _, _, rfl, rfl, SqL.of upd_same, axr, ?_⟩
   have hd2 := se _ _ hd
   refine ⟨_, rfl, _, rfl, _, rfl, L, _, _, _, rfl, rfl, SqL.of (se _ _ hL2), ax, qs[i], _, _, _, rfl, rfl, SqT.of (se _ _ tq), rfl, D, _, rfl, DPut.k (k := (.inr cs[i].1 : Key)) hd2 (by rw [List.length_map, List.length_range]; exact small1000 (by omega)), ?_⟩
   rw [row_put G hic]
   have S3 : Same H (upd (upd H2 e (.lst rowInts)) D (.dK ((List.range i).map (rowF c cs) ++ [(.inr cs[i].1, x)]))) := (sm.trans se).upd hD
   have DL : ∀ {a : Addr} {xs : List V}, upd H2 e (.lst rowInts) a = some (.lst xs) → a ≠ D := fun {a xs} h => ne_of h hd2 (by intro z; cases z)
   have DT : ∀ {a : Addr} {xs : List V}, upd H2 e (.lst rowInts) a = some (.tup xs) → a ≠ D := fun {a xs} h => ne_of h hd2 (by intro z; cases z)
   have hL3 : upd (upd H2 e (.lst rowInts)) D (.dK ((List.range i).map (rowF c cs) ++ [(.inr cs[i].1, x)])) L = some (.lst (qs.map V.ref)) := by rw [upd_ne (DL (se _ _ hL2))]; exact se _ _ hL2
   have tq3 : upd (upd H2 e (.lst rowInts)) D (.dK ((List.range i).map (rowF c cs) ++ [(.inr cs[i].1, x)])) qs[i] = some (.tup [.str cs[i].1, .str cs[i].2]) := by rw [upd_ne (DT (se _ _ tq))]; exact se _ _ tq
   have hd3 : upd (upd H2 e (.lst rowInts)) D (.dK ((List.range i).map (rowF c cs) ++ [(.inr cs[i].1, x)])) D = some (.dK ((List.range i).map (rowF c cs) ++ [(.inr cs[i].1, x)])) := upd_same
   refine ⟨_, rfl, _, rfl, L, _, _, _, rfl, rfl, SqL.of hL3, ax, qs[i], _, _, _, rfl, rfl, SqT.of tq3, rfl, rfl, _, rfl, ite2 (fun z => ?_) (fun z => ?_)⟩
   ·have ek : cs[i].2 = "word" := by rw [str_dec] at z; exact of_decide_eq_true z
    refine ⟨small_line (show 5 ≤ 100000 by decide), fun e2 he2 => ?_⟩
    have m5 := emod_in (x := mixV c (50 + i)) (n := 5) (by decide)
    obtain ⟨y, ays, _⟩ := atI_mem (xs := rowStrs) m5.1 m5.2
    have se2 := Same.new (o := .lst rowStrs) he2
    refine ⟨_, rfl, _, _, rfl, rfl, (show (0 : Int) < 5 by decide), e2, rowStrs, _, _, rfl, rfl, SqL.of upd_same, ays, ?_⟩
    refine ⟨_, rfl, _, rfl, _, rfl, L, _, _, _, rfl, rfl, SqL.of (se2 _ _ hL3), ax, qs[i], _, _, _, rfl, rfl, SqT.of (se2 _ _ tq3), rfl, D, _, rfl, DPut.k (k := (.inr cs[i].1 : Key)) (se2 _ _ hd3) (by rw [List.length_append, List.length_map, List.length_range]; exact small1000 (by simp only [List.length_cons, List.length_nil]; omega)), ?_⟩
    rw [put_again (val_none G hic)]
    refine ⟨_, _, rfl, (S3.trans se2).upd hD, ?_⟩
    rw [upd_same, row_snoc hic]
    have : rowV c i cs[i].2 = y := by
     unfold rowV
     rw [if_pos ek]
     show (atI rowStrs (mixV c (50 + i) % (5 : Int))).getD .non = _
     rw [show atI rowStrs (mixV c (50 + i) % (5 : Int)) = some y from ays]
     rfl
    rw [this]
   ·have nk : ¬ cs[i].2 = "word" := by rw [str_dec] at z; exact of_decide_eq_false (by simpa using z)
    refine ⟨_, _, rfl, S3, ?_⟩
    rw [upd_same, row_snoc hic]
    have : rowV c i cs[i].2 = x := by
     unfold rowV
     rw [if_neg nk]
     show (atI rowInts (mixV c (50 + i) % (8 : Int))).getD .non = _
     rw [show atI rowInts (mixV c (50 + i) % (8 : Int)) = some x from axr]
     rfl
    rw [this]
  ·rintro σ H2 ⟨v3, v4, rfl, sm, hd⟩
   refine ⟨_, rfl, q D H2 hD sm ?_⟩
   rw [hd, List.length_map, show ((qs.length : Nat) : Int).toNat = cs.length by rw [Paired.length hL.c]; omega]
   rfl
theorem ok__law_turned (T : Txt w K mg) : FnOk P w K mg base CX0 1 T._law_turned.f T._law_turned.fd ["_law_kinds", "_law_number"] sp__law_turned := by
 refine T._law_turned.fn.ok sc__law_turned (fun vs H Q E h => ?_) (fun cdv A outer s H vs Q E hr h => ?_)
 ·obtain ⟨_, _, _, rfl, _⟩ := h
  rfl
 ·obtain ⟨a, n, cs, rfl, ha, G, q⟩ := h
  have hu1 := hu_of hr
  refine ⟨_, ((pss_cons (ps_set (i := 2) sc__law_turned.nd rfl (Or.inl rfl) (pe_callTy call_dictC (by rfl) T.b_dict bt_dict (pa_cons (pv 0) pa_nil)))
   (pss_cons (ps_set (i := 3) sc__law_turned.nd rfl (Or.inl rfl) (pe_ix (ix_listK (K := K) rfl) (pe_callB (call_sortedDS rfl) (by rfl) T.b_sorted bt_sorted (pa_cons (pv 0) pa_nil)) (pe_op op_mod (pv 1) (pe_callB call_lenD (by rfl) T.b_len bt_len (pa_cons (pv 0) pa_nil))) (fun _ _ => rfl)))
   (pss_cons (ps_if (pt_cmpR op_eq (pe_op op_mod (pe_op op_fdivB (pv 1) pe_int) pe_int) pe_int (nomark _)) (pss_one (ps_expr (pe_dpop1 (pv 2) (pv 3) ⟨rfl, rfl, rfl, rfl⟩))) (pss_one (ps_dput hu1 (pv 2) (pv 3) (pe_ix (ix_listK (K := K) rfl) (pe_lst (pa_cons pe_str (pa_cons pe_str pa_nil))) (pe_callTy call_int1 (by rfl) T.b_int bt_int (pa_cons (pe_cmpR op_eq (pe_dget hu1 (pv 0) (pv 3) (fun _ _ => rfl)) pe_str (nomark _)) pa_nil)) (fun _ _ => rfl)) rfl)))
   (pss_one (ps_ret (pv 2))))))), ?_⟩
  have kl : (kinds cs).length = 5 := by rw [kinds, List.length_map]; exact G.five
  refine ⟨_, rfl, a, _, rfl, ha, fun D hD => ?_⟩
  have sD : Same H (upd H D (.dK (kinds cs))) := Same.new hD
  refine ⟨_, rfl, a, _, cs.map (·.1), rfl, sD _ _ ha, by rw [kinds, List.map_map, List.map_map]; rfl, by rw [List.length_map, G.five]; decide, fun l ms hl pm so => ?_⟩
  have sl := Same.new (o := .lst (ms.map V.str)) hl
  have S := sD.trans sl
  have ml : ms.length = 5 := by rw [pm.length_eq, List.length_map, G.five]
  have lp : 0 < (kinds cs).length := by omega
  have me := emod_in (x := n) lp
  obtain ⟨x, ax, mx⟩ := atI_mem (xs := ms.map V.str) me.1 (by rw [List.length_map, ml]; have := me.2; omega)
  obtain ⟨y, my, rfl⟩ := List.mem_map.mp mx
  obtain ⟨c, mc, ec⟩ := List.mem_map.mp (pm.mem_iff.mp my)
  have lk : look (kinds cs) y = some (.str c.2) := by rw [← ec]; exact kinds_has G mc
  refine ⟨_, rfl, _, rfl, a, _, rfl, S _ _ ha, _, _, rfl, rfl, (show (0 : Int) < (((kinds cs).length : Nat) : Int) by omega), l, _, _, _, rfl, rfl, SqL.of upd_same, ax, ?_⟩
  have hD2 : upd (upd H D (.dK (kinds cs))) l (.lst (ms.map V.str)) D = some (.dK (kinds cs)) := sl _ _ upd_same
  refine ⟨_, rfl, _, _, rfl, rfl, ⟨by decide, by decide⟩, _, _, rfl, rfl, (show (0 : Int) < 2 by decide), rfl, _, rfl, ite2 (fun _ => ?_) (fun _ => ?_)⟩
  ·refine ⟨_, rfl, D, rfl, .inl ⟨_, .inl hD2⟩, _, rfl, _, (.inr y : Key), _, hD2, rfl, lk, ?_⟩
   exact ⟨_, rfl, q D _ _ (S.upd hD) upd_same (drop_texts (kinds_texts cs) _)⟩
  ·refine ⟨small_line (show 2 ≤ 100000 by decide), fun e he => ?_⟩
   have se := Same.new (o := .lst [.str "word", .str "number"]) he
   have S2 := S.trans se
   refine ⟨_, rfl, _, rfl, a, _, rfl, look_get (S2 _ _ ha) lk, rfl, .inr ⟨_, rfl, ?_⟩⟩
   obtain ⟨z, hz⟩ : ∃ z : Str, atI [V.str "word", V.str "number"] (if decide (V.str c.2 = V.str "word") = true then 1 else 0) = some (.str z) := by
    split
    ·exact ⟨_, rfl⟩
    ·exact ⟨_, rfl⟩
   refine ⟨e, _, _, _, rfl, rfl, SqL.of upd_same, hz, _, rfl, _, rfl, D, _, rfl, DPut.k (k := (.inr y : Key)) (se _ _ hD2) (by rw [kl]; exact small1000 (by decide)), ?_⟩
   exact ⟨_, rfl, q D _ _ (S2.upd hD) upd_same (put_texts (kinds_texts cs) _ z)⟩
end
theorem opp_st {s : Str} (h : okS s) {x y : V} (al : alike x y = true) : stV (oppS s) x y = !stV s x y := by
 unfold okS at h
 simp only [List.mem_cons, List.not_mem_nil, or_false] at h
 have o1 : oppS "=" = "<>" := by kernel_rfl
 have o2 : oppS "<>" = "=" := by kernel_rfl
 have o3 : oppS "<" = ">=" := by kernel_rfl
 have o4 : oppS "<=" = ">" := by kernel_rfl
 have o5 : oppS ">" = "<=" := by kernel_rfl
 have o6 : oppS ">=" = "<" := by kernel_rfl
 have e1 : stV "=" x y = decide (x = y) := by rw [stV, if_pos rfl]
 have e2 : stV "<>" x y = !decide (x = y) := by rw [stV, if_neg (by decide +kernel), if_pos rfl]
 have e3 : stV "<" x y = ltV x y := by rw [stV, if_neg (by decide +kernel), if_neg (by decide +kernel), if_pos rfl]
 have e4 : stV "<=" x y = leV x y := by rw [stV, if_neg (by decide +kernel), if_neg (by decide +kernel), if_neg (by decide +kernel), if_pos rfl]
 have e5 : stV ">" x y = ltV y x := by rw [stV, if_neg (by decide +kernel), if_neg (by decide +kernel), if_neg (by decide +kernel), if_neg (by decide +kernel), if_pos rfl]
 have e6 : stV ">=" x y = leV y x := by rw [stV, if_neg (by decide +kernel), if_neg (by decide +kernel), if_neg (by decide +kernel), if_neg (by decide +kernel), if_neg (by decide +kernel)]
 have i1 : ∀ i j : Int, decide (j ≤ i) = !decide (i < j) := fun i j => by
  by_cases h : i < j
  ·rw [decide_eq_true h, decide_eq_false (by omega)]; rfl
  ·rw [decide_eq_false h, decide_eq_true (by omega)]; rfl
 have l1 : leV y x = !ltV x y := by
  cases x <;> cases y <;> first | exact i1 _ _ | rfl | cases al
 have l2 : leV x y = !ltV y x := by
  cases x <;> cases y <;> first | exact i1 _ _ | rfl | cases al
 rcases h with rfl | rfl | rfl | rfl | rfl | rfl
 ·rw [o1, e2, e1]
 ·rw [o2, e1, e2, Bool.not_not]
 ·rw [o3, e6, e3, l1]
 ·rw [o4, e5, e4, l2, Bool.not_not]
 ·rw [o5, e4, e5, l2]
 ·rw [o6, e3, e6, l1, Bool.not_not]
mutual
theorem clr_dp : ∀ c : Cn, c.clr.dp ≤ c.dp
 | .cmp l s r => by simp only [Cn.clr]; exact Nat.le_refl _
 | .an a b => by have := clr_dp a; have := clr_dp b; simp only [Cn.clr, Cn.dp]; omega
 | .or a b => by have := clr_dp a; have := clr_dp b; simp only [Cn.clr, Cn.dp]; omega
 | .nt a => by have := opp_dp a; simp only [Cn.clr, Cn.dp]; omega
theorem opp_dp : ∀ c : Cn, c.opp.dp ≤ c.dp
 | .cmp l s r => by simp only [Cn.opp, Cn.dp]; exact Nat.le_refl _
 | .an a b => by have := opp_dp a; have := opp_dp b; simp only [Cn.opp, Cn.dp]; omega
 | .or a b => by have := opp_dp a; have := opp_dp b; simp only [Cn.opp, Cn.dp]; omega
 | .nt a => by have := clr_dp a; simp only [Cn.opp, Cn.dp]; omega
end
mutual
theorem clr_fits {ρ : Row} : ∀ c : Cn, fitsC ρ c → fitsC ρ c.clr
 | .cmp l s r, h => by simp only [Cn.clr]; exact h
 | .an a b, h => by simp only [Cn.clr]; exact ⟨clr_fits a h.1, clr_fits b h.2⟩
 | .or a b, h => by simp only [Cn.clr]; exact ⟨clr_fits a h.1, clr_fits b h.2⟩
 | .nt a, h => by simp only [Cn.clr]; exact opp_fits a h
theorem opp_fits {ρ : Row} : ∀ c : Cn, fitsC ρ c → fitsC ρ c.opp
 | .cmp l s r, h => by simp only [Cn.opp]; exact h
 | .an a b, h => by simp only [Cn.opp]; exact ⟨opp_fits a h.1, opp_fits b h.2⟩
 | .or a b, h => by simp only [Cn.opp]; exact ⟨opp_fits a h.1, opp_fits b h.2⟩
 | .nt a, h => by simp only [Cn.opp]; exact clr_fits a h
end
mutual
theorem clr_hold {ρ : Row} : ∀ c : Cn, c.ok → fitsC ρ c → c.clr.hold ρ = c.hold ρ
 | .cmp l s r, _, _ => by simp only [Cn.clr]
 | .an a b, ok, h => by simp only [Cn.clr, Cn.hold, clr_hold a ok.1 h.1, clr_hold b ok.2 h.2]
 | .or a b, ok, h => by simp only [Cn.clr, Cn.hold, clr_hold a ok.1 h.1, clr_hold b ok.2 h.2]
 | .nt a, ok, h => by simp only [Cn.clr, Cn.hold, opp_hold a ok h]
theorem opp_hold {ρ : Row} : ∀ c : Cn, c.ok → fitsC ρ c → c.opp.hold ρ = !c.hold ρ
 | .cmp l s r, ok, ⟨x, y, e1, e2, al⟩ => by
  simp only [Cn.opp, Cn.hold, e1, e2, Option.getD_some]
  exact opp_st ok.2.1 al
 | .an a b, ok, h => by simp only [Cn.opp, Cn.hold, opp_hold a ok.1 h.1, opp_hold b ok.2 h.2, Bool.not_and]
 | .or a b, ok, h => by simp only [Cn.opp, Cn.hold, opp_hold a ok.1 h.1, opp_hold b ok.2 h.2, Bool.not_or]
 | .nt a, ok, h => by simp only [Cn.opp, Cn.hold, clr_hold a ok h, Bool.not_not]
end
theorem rising_pw : ∀ (p : Str) (l : List Str), risingS p l = true → (p :: l).Pairwise (fun a b => a.cps.toList ≤ b.cps.toList)
 | p, [], _ => List.pairwise_singleton _ _
 | p, x :: r, h => by
  have h : (!ltCps x.cps.toList p.cps.toList && risingS x r) = true := h
  rw [Bool.and_eq_true, ltCps_eq] at h
  have h1 : p.cps.toList ≤ x.cps.toList := List.not_lt.mp (by simpa using h.1)
  have ih := rising_pw x r h.2
  refine List.pairwise_cons.mpr ⟨fun y hy => ?_, ih⟩
  rcases List.mem_cons.mp hy with rfl | hy
  ·exact h1
  ·exact List.le_trans h1 (List.rel_of_pairwise_cons ih hy)
theorem sorted_pw : ∀ (l : List Str), sortedS l = true → l.Pairwise (fun a b => a.cps.toList ≤ b.cps.toList)
 | [], _ => .nil
 | x :: r, h => rising_pw x r h
theorem sorted_one {l m : List Str} (h1 : sortedS l = true) (h2 : sortedS m = true) (p : l.Perm m) : l = m :=
 List.Perm.eq_of_pairwise (fun a b _ _ ha hb => str_ext (List.le_antisymm ha hb)) (sorted_pw l h1) (sorted_pw m h2) p
theorem eqL_strs : ∀ (l : List Str), eqL (l.map V.str) (l.map V.str) = true
 | [] => rfl
 | x :: l => by
  show (eqV (.str x) (.str x) && eqL (l.map V.str) (l.map V.str)) = true
  rw [eqL_strs l, Bool.and_true]
  exact beq_self_eq_true x
theorem within_top (c : Cn) : within c 1 = c.txt := by
 cases c with
 | cmp _ _ _ => exact if_pos (show (3 : Int) ≥ 1 by decide)
 | an _ _ => exact if_pos (show (2 : Int) ≥ 1 by decide)
 | or _ _ => exact if_pos (show (1 : Int) ≥ 1 by decide)
 | nt _ => exact if_pos (show (3 : Int) ≥ 1 by decide)
theorem ins_ty {w : World} {K : PySem.W.Frag} {mg : Str → Option Value} (T : Txt w K mg) {H : Hp} : ∀ {c : Cn} {v : V}, CO (clsOf T) H c v → TyOf K H v (.ref (clsOf T c.k)) ∧ PySem.W.kitOne K (.ref (clsOf T c.k)) (.ref T.C_Cond) = some true
 | .cmp _ _ _, _, ⟨a, dx, b, e, h, _⟩ => by subst e; exact ⟨.ins h T.l_Compare T.i_Compare T.j_Compare T.h_Compare T.m_Compare, T.q_Compare⟩
 | .an _ _, _, ⟨a, dx, x, y, e, h, _⟩ => by subst e; exact ⟨.ins h T.l_And T.i_And T.j_And T.h_And T.m_And, T.q_And⟩
 | .or _ _, _, ⟨a, dx, x, y, e, h, _⟩ => by subst e; exact ⟨.ins h T.l_Or T.i_Or T.j_Or T.h_Or T.m_Or, T.q_Or⟩
 | .nt _, _, ⟨a, dx, x, e, h, _⟩ => by subst e; exact ⟨.ins h T.l_Not T.i_Not T.j_Not T.h_Not T.m_Not, T.q_Not⟩
def sp__law_right : Sp := fun vs H Q _ => ∃ (c : Cn) (v : V) (L : Addr) (cell : Int) (qs : List Addr) (cs : List Col), vs = [v, .ref L, .int cell] ∧ Tld H c v ∧ goodC cs c ∧ c.dp ≤ 5 ∧ NmsAt H L qs cs ∧ ∀ H', Same H H' → Q (.bl true) H'
def sp_law (K : PySem.W.Frag) : Sp := fun vs H Q _ => ∃ (a : Addr) (ns : List Int), vs = [.ref a] ∧ SqL K H a (ns.map V.int) ∧ ns.length ≤ 63 ∧ ∀ H', Q (.bl true) H'
theorem kinds_keys {cs : List Col} (G : GoodCols cs) : ((kinds cs).map (·.1)).Nodup := by
 have : (kinds cs).map (·.1) = (cs.map (·.1)).map (Sum.inr : Str → Key) := by rw [kinds, List.map_map, List.map_map]; rfl
 rw [this]
 refine List.pairwise_map.mpr (List.Pairwise.imp (fun h e => h ?_) G.nd)
 injection e
theorem eqL_bls (a b c : Bool) : eqL [.bl a, .bl b, .bl c] [.bl a, .bl b, .bl c] = true := by
 cases a <;> cases b <;> cases c <;> rfl
section
variable {P : Program} {w : World} {K : PySem.W.Frag} {mg : Str → Option Value} {base : Heap}
theorem sq_sm {K : PySem.W.Frag} {H H' : Hp} {a : Addr} {xs : List V} (h : SqL K H a xs) (s : Same H H') : SqL K H' a xs := by
 rcases h with h | h
 ·rcases h with h | ⟨o, h⟩
  ·exact .inl (.inl (s _ _ h))
  ·exact .inl (.inr ⟨o, s _ _ h⟩)
 ·exact .inr h
theorem ok__law_right (T : Txt w K mg) : FnOk P w K mg base CX0 14 T._law_right.f T._law_right.fd ["_law_told", "_law_names", "_law_cell_here"] sp__law_right := by
 have G__law_mix : FnOk P w K mg base CX0 1 T._law_mix.f T._law_mix.fd _ _ := ok__law_mix T
 have G__law_cond_built : FnOk P w K mg base CX0 (3 + 5) T._law_cond_built.f T._law_cond_built.fd _ _ := ok__law_cond_built T 5
 have G__law_cond_text : FnOk P w K mg base CX0 (2 + 5) T._law_cond_text.f T._law_cond_text.fd _ _ := ok__law_cond_text T 5
 have G__law_plain : FnOk P w K mg base CX0 (1 + 5) T._law_plain.f T._law_plain.fd _ _ := ok__law_plain T 5
 have G__law_row : FnOk P w K mg base CX0 2 T._law_row.f T._law_row.fd _ _ := ok__law_row T
 have G__law_held : FnOk P w K mg base CX0 (1 + 5) T._law_held.f T._law_held.fd _ _ := ok__law_held T 5
 have G__law_turned : FnOk P w K mg base CX0 1 T._law_turned.f T._law_turned.fd _ _ := ok__law_turned T
 have G__law_judged : FnOk P w K mg base CX0 (5 + 5) T._law_judged.f T._law_judged.fd _ _ := ok__law_judged T 5
 have G__law_fault : FnOk P w K mg base CX0 (2 + 5) T._law_fault.f T._law_fault.fd _ _ := ok__law_fault T 5
 have G__law_parts_right : FnOk P w K mg base CX0 (6 + 5) T._law_parts_right.f T._law_parts_right.fd _ _ := ok__law_parts_right T 5 (by decide)
 have G__law_names_within : FnOk P w K mg base CX0 (2 + 5) T._law_names_within.f T._law_names_within.fd _ _ := ok__law_names_within T 5
 have D_told : Dy P w K mg base CX0 (1 + 5) "told" ["self"] (clsOf T) (sp_told (clsOf T) 5) := D_told T 5
 have D_text : Dy P w K mg base CX0 (3 + 2 * 5) "text" ["self"] (clsOf T) (sp_text (clsOf T) 5) := D_text T 5
 have D_holds : Dy P w K mg base CX0 (2 + 5) "holds" ["self", "values"] (clsOf T) (sp_holds (clsOf T) 5) := D_holds T 5
 have D_cleared : Dy P w K mg base CX0 (3 + 5) "cleared" ["self"] (clsOf T) (sp_clear (clsOf T) 5) := (D_CO T 5).c
 have D_opposite : Dy P w K mg base CX0 (3 + 5) "opposite" ["self"] (clsOf T) (sp_oppo (clsOf T) 5) := (D_CO T 5).o
 have D_names_in : Dy P w K mg base CX0 7 "names_in" ["self"] (clsOf T) (sp_nin (clsOf T) 5) := D_names_in T
 refine T._law_right.fn.ok sc__law_right (fun vs H Q E h => ?_) (fun cdv A outer s H vs Q E hr h => ?_)
 ·obtain ⟨_, _, _, _, _, _, rfl, _⟩ := h
  rfl
 ·obtain ⟨c, v, L, cell, qs, cs, rfl, hT, gc, h5, hL, q⟩ := h
  have hu := hr.units
  have hu0 := hr.units0
  have hu2 : _ + 1 + 1 < cLine := Nat.lt_of_le_of_lt (Nat.add_le_add_left (by decide : 2 ≤ 64) _) hu
  have hu7 : _ + 6 + 1 < cLine := Nat.lt_of_le_of_lt (Nat.add_le_add_left (by decide : 7 ≤ 64) _) hu
  have G := hL.g
  have ok := good_ok G gc
  have hclr := clr_dp c
  have hopp := opp_dp c
  refine ⟨_, ((pss_cons (ps_set (i := 3) sc__law_right.nd rfl (Or.inl rfl) (pe_own G__law_cond_built (hr.mono (by omega)) rfl (pa_cons (pv 0) pa_nil)))
   (pss_cons (ps_set (i := 4) sc__law_right.nd rfl (Or.inl rfl) (pe_callTy (call_dictL rfl) (by rfl) T.b_dict bt_dict (pa_cons (pv 1) pa_nil)))
   (pss_cons (ps_set (i := 5) sc__law_right.nd rfl (Or.inl rfl) (pe_dyn0 D_cleared (hr.mono (by omega)) (pv 3)))
   (pss_cons (ps_set (i := 6) sc__law_right.nd rfl (Or.inl rfl) (pe_dyn0 D_opposite (hr.mono (by omega)) (pv 3)))
   (pss_cons (ps_if (PW.pt (pw_or (pt_not (pt_val (pe_callB (call_isiRK (K := K) rfl) (by rfl) T.b_isinstance bt_isinstance (pa_cons (pv 3) (pa_cons (pe_glob (v := .ref T.C_Cond) rfl T.c_Cond rfl) pa_nil))))) (pw_or (pt_cmpR (op_neDK (K := K) (n := 6) rfl hu7) (pe_dyn0 D_told (hr.mono (by omega)) (pv 3)) (pv 0) (nomark _)) (pw_or1 (pt_cmpR op_ne (pe_dyn0 D_text (hr.mono (by omega)) (pv 3)) (pe_own G__law_cond_text (hr.mono (by omega)) rfl (pa_cons (pv 0) (pa_cons pe_int pa_nil))) (nomark _)))))) (pss_one (ps_ret pe_bl)) pss_nil)
   (pss_cons (ps_if (PW.pt (pw_or (pt_cmpR (op_neDK (K := K) (n := 6) rfl hu7) (pe_dyn0 D_told (hr.mono (by omega)) (pv 5)) (pe_own G__law_plain (hr.mono (by omega)) rfl (pa_cons (pv 0) (pa_cons pe_bl pa_nil))) (nomark _)) (pw_or1 (pt_cmpR (op_neDK (K := K) (n := 6) rfl hu7) (pe_dyn0 D_told (hr.mono (by omega)) (pv 6)) (pe_own G__law_plain (hr.mono (by omega)) rfl (pa_cons (pv 0) (pa_cons pe_bl pa_nil))) (nomark _))))) (pss_one (ps_ret pe_bl)) pss_nil)
   (pss_cons (ps_for PassesOwn.never rfl (pi_range1 rfl T.b_range (pa_cons pe_int pa_nil)) (pg_name (i := 7) sc__law_right.nd rfl (Or.inl rfl)) (pss_cons (ps_set (i := 8) sc__law_right.nd rfl (Or.inl rfl) (pe_own G__law_row (hr.mono (by omega)) rfl (pa_cons (pe_own G__law_mix (hr.mono (by omega)) rfl (pa_cons (pv 2) (pa_cons (pe_op op_add pe_int (pv 7)) pa_nil))) (pa_cons (pv 1) pa_nil))))
   (pss_cons (ps_set (i := 9) sc__law_right.nd rfl (Or.inl rfl) (pe_own G__law_held (hr.mono (by omega)) rfl (pa_cons (pv 0) (pa_cons (pv 8) pa_nil))))
   (pss_cons (ps_set (i := 10) sc__law_right.nd rfl (Or.inl rfl) (pe_lst (pa_cons (pe_dyn D_holds (hr.mono (by omega)) (pv 3) (pa_cons (pv 8) pa_nil)) (pa_cons (pe_dyn D_holds (hr.mono (by omega)) (pv 5) (pa_cons (pv 8) pa_nil)) (pa_cons (pe_dyn D_holds (hr.mono (by omega)) (pv 6) (pa_cons (pv 8) pa_nil)) pa_nil)))))
   (pss_cons (ps_if (PW.pt (pw_or (pt_cmpR (op_neLK (K := K) rfl hu0) (pv 10) (pe_lst (pa_cons (pv 9) (pa_cons (pv 9) (pa_cons (pe_not (pv 9)) pa_nil)))) (nomark _)) (pw_or1 (pt_cmpR (op_neLK (K := K) rfl hu0) (pe_comp (N := ["_law_one"]) (own := 1) (caps := []) rfl (by kernel_rfl) (by kernel_rfl) (pi_listK (K := K) rfl (pv 10)) (fun _ _ _ _ _ => pg_name (i := 0) (show List.Nodup (["_law_one"] : List Str) by decide +kernel) rfl (Or.inl rfl)) (fun _ _ _ _ _ => (pts_one (pt_not (pt_val (pe_callB (call_isiTK (K := K) rfl) (by rfl) T.b_isinstance bt_isinstance (pa_cons (pv 0) (pa_cons (pe_bltn (v := .ty "bool") rfl T.b_bool bt_bool rfl) pa_nil))))))) (fun _ _ _ _ _ => (pv 0))) (pe_lst pa_nil) (nomark _))))) (pss_one (ps_ret pe_bl)) pss_nil)
   (pss_one (ps_if (pt_cmpR (op_neSame hu0) (pv 8) (pe_own G__law_row (hr.mono (by omega)) rfl (pa_cons (pe_own G__law_mix (hr.mono (by omega)) rfl (pa_cons (pv 2) (pa_cons (pe_op op_add pe_int (pv 7)) pa_nil))) (pa_cons (pv 1) pa_nil))) (nomark _)) (pss_one (ps_ret pe_bl)) pss_nil)))))))
   (pss_cons (ps_set (i := 11) sc__law_right.nd rfl (Or.inl rfl) (pe_own G__law_turned (hr.mono (by omega)) rfl (pa_cons (pv 4) (pa_cons (pe_own G__law_mix (hr.mono (by omega)) rfl (pa_cons (pv 2) (pa_cons pe_int pa_nil))) pa_nil))))
   (pss_cons (ps_if (PW.pt (pw_or (pt_cmp (pc_notN (pe_own G__law_judged (hr.mono (by omega)) rfl (pa_cons (pv 3) (pa_cons (pv 4) pa_nil))))) (pw_or1 (pt_cmpR (OpR.or op_ne (op_neDK (K := K) (n := 1) rfl hu2)) (pe_own G__law_judged (hr.mono (by omega)) rfl (pa_cons (pv 3) (pa_cons (pv 11) pa_nil))) (pe_own G__law_fault (hr.mono (by omega)) rfl (pa_cons (pv 0) (pa_cons (pv 11) pa_nil))) (nomark _))))) (pss_one (ps_ret pe_bl)) pss_nil)
   (pss_cons (ps_if (pt_not (pt_val (pe_own G__law_parts_right (hr.mono (by omega)) rfl (pa_cons (pv 3) (pa_cons (pv 0) pa_nil))))) (pss_one (ps_ret pe_bl)) pss_nil)
   (pss_one (ps_ret (pe_and (pe_cmpR (op_eqLK (K := K) rfl hu0) (pe_dyn0 D_names_in (hr.mono (by omega)) (pv 3)) (pe_own G__law_names_within (hr.mono (by omega)) rfl (pa_cons (pv 0) pa_nil)) (nomark _)) (pe_one (pe_cmpR (op_eqDK (K := K) (n := 6) rfl hu7) (pe_dyn0 D_told (hr.mono (by omega)) (pv 3)) (pv 0) (nomark _))))))))))))))))), ?_⟩
  refine ⟨_, rfl, c, v, rfl, hT, h5, fun u H1 s1 hC => ?_⟩
  have hL1 := hL.same s1
  refine ⟨_, rfl, L, qs, kinds cs, rfl, hL1.l, by rw [kinds, List.length_map, Paired.length hL.c], by rw [hL.len]; decide, kinds_keys G, fun i q0 kx e1 e2 => ?_, fun kd hkd => ?_⟩
  ·have hi : i < qs.length := (List.getElem?_eq_some_iff.mp e1).1
   have hi2 : i < cs.length := by rw [← Paired.length hL.c]; exact hi
   rw [List.getElem?_eq_getElem hi] at e1
   cases e1
   rw [kinds, List.getElem?_map, List.getElem?_eq_getElem hi2] at e2
   cases e2
   exact Paired.at hL1.c i hi hi2
  have s2 : Same H1 (upd H1 kd (.dK (kinds cs))) := Same.new hkd
  have S2 : Same H (upd H1 kd (.dK (kinds cs))) := s1.trans s2
  have ekd : upd H1 kd (.dK (kinds cs)) kd = some (.dK (kinds cs)) := upd_same
  have hC2 := hC.same s2
  generalize upd H1 kd (.dK (kinds cs)) = H2 at s2 S2 ekd hC2
  obtain ⟨a1, d1, f1, e1, e2, e3⟩ := hC2.at "cleared" nf_cleared
  refine ⟨_, rfl, c.k, a1, d1, f1, e1, e2, e3, c, u, rfl, rfl, h5, hC2, ok, fun r1 H3 s3 c1 => ?_⟩
  obtain ⟨a1, d1, f1, e1, e2, e3⟩ := (hC2.same s3).at "opposite" nf_opposite
  refine ⟨_, rfl, c.k, a1, d1, f1, e1, e2, e3, c, u, rfl, rfl, h5, hC2.same s3, ok, fun r2 H4 s4 c2 => ?_⟩
  have S4 : Same H H4 := (S2.trans s3).trans s4
  have hC4 := hC2.same (s3.trans s4)
  have c14 := c1.same s4
  have ekd4 := s4 _ _ (s3 _ _ ekd)
  obtain ⟨ty, kt⟩ := ins_ty T hC4
  refine ⟨_, rfl, _, _, _, _, rfl, ty, kt, _, rfl, iteF ?_⟩
  obtain ⟨a1, d1, f1, e1, e2, e3⟩ := hC4.at "told" nf_told
  refine ⟨_, rfl, c.k, a1, d1, f1, e1, e2, e3, c, u, rfl, rfl, h5, hC4, fun r3 H5 s5 t3 => ?_⟩
  have S5 := S4.trans s5
  refine ⟨_, rfl, deq h5 t3 (hT.same S5), _, rfl, iteF ?_⟩
  have hC5 := hC4.same s5
  obtain ⟨a1, d1, f1, e1, e2, e3⟩ := hC5.at "text" nf_text
  refine ⟨_, rfl, c.k, a1, d1, f1, e1, e2, e3, c, u, rfl, rfl, h5, hC5, ok, by omega, fun H6 s6 => ?_⟩
  have S6 := S5.trans s6
  refine ⟨_, rfl, c, v, 1, rfl, hT.same S6, h5, ok, by omega, by decide, fun H7 s7 => ?_⟩
  have S7 := S6.trans s7
  refine ⟨rfl, _, rfl, ite2 (fun z => ?_) (fun _ => ?_)⟩
  ·rw [within_top, decide_eq_true rfl] at z
   cases z
  have c17 := c14.same ((s5.trans s6).trans s7)
  have c27 := c2.same ((s5.trans s6).trans s7)
  have hC7 := hC5.same (s6.trans s7)
  have ekd7 := s7 _ _ (s6 _ _ (s5 _ _ ekd4))
  obtain ⟨a1, d1, f1, e1, e2, e3⟩ := c17.at "told" nf_told
  refine ⟨_, rfl, _, a1, d1, f1, e1, e2, e3, c.clr, r1, rfl, rfl, by omega, c17, fun r4 H8 s8 t4 => ?_⟩
  refine ⟨_, rfl, c, v, false, rfl, hT.same (S7.trans s8), h5, ok, fun r5 H9 s9 t5 => ?_⟩
  refine ⟨deq (by omega) (t4.same s9) t5, _, rfl, iteF ?_⟩
  have c29 := c27.same (s8.trans s9)
  obtain ⟨a1, d1, f1, e1, e2, e3⟩ := c29.at "told" nf_told
  refine ⟨_, rfl, _, a1, d1, f1, e1, e2, e3, c.opp, r2, rfl, rfl, by omega, c29, fun r6 HA sA t6 => ?_⟩
  refine ⟨_, rfl, c, v, true, rfl, hT.same (((S7.trans s8).trans s9).trans sA), h5, ok, fun r7 HB sB t7 => ?_⟩
  refine ⟨deq (by omega) (t6.same sB) t7, _, rfl, iteF ?_⟩
  have s7B : Same H7 HB := ((s8.trans s9).trans sA).trans sB
  have SB : Same H HB := S7.trans s7B
  have hCB := hC7.same s7B
  have c1B := c17.same s7B
  have c2B := c27.same s7B
  have ekdB := s7B _ _ ekd7
  clear s7B t7 sB t6 sA t5 t4 s9 s8 c29 c17 c27 hC7 ekd7 S7 s7 S6 s6 hC5 S5 s5 t3 ty kt c14 hC4 ekd4 S4 s4 c2 s3 c1 hC2 ekd S2 s2 hL1 hC s1
  refine ⟨_, rfl, by decide, by decide, for_range (lo := 0) (n := 3) (fun i σ HC => ∃ v7 v8 v9 v10, σ = [some v, some (.ref L), some (.int cell), some u, some (.ref kd), some r1, some r2, v7, v8, v9, v10, none] ∧ Same HB HC)
   ⟨none, none, none, none, rfl, Same.refl _⟩ ?_ ?_⟩
  ·rintro i σ HC hi ⟨v7, v8, v9, v10, rfl, sC⟩
   have SC := SB.trans sC
   refine ⟨_, rfl, _, rfl, _, _, rfl, rfl, cell, _, rfl, by omega, by omega, _, rfl, _, L, qs, cs, rfl, hL.same SC, fun D HD hD sD eD => ?_⟩
   generalize hm : mixV cell (90 + (0 + (i : Int))) = m
   rw [hm] at eD
   have SD := SC.trans sD
   have ft := good_fits G m gc
   refine ⟨_, rfl, _, rfl, c, v, D, _, rfl, hT.same SD, h5, ok, eD, ft, fun HE sE => ?_⟩
   have sBE : Same HB HE := (sC.trans sD).trans sE
   have SE := SB.trans sBE
   have eE := sE _ _ eD
   obtain ⟨a1, d1, f1, e1, e2, e3⟩ := (hCB.same sBE).at "holds" nf_holds
   refine ⟨_, rfl, _, a1, d1, f1, e1, e2, e3, _, rfl, c, u, D, _, rfl, rfl, h5, hCB.same sBE, eE, ft, ?_⟩
   obtain ⟨a1, d1, f1, e1, e2, e3⟩ := (c1B.same sBE).at "holds" nf_holds
   refine ⟨_, rfl, _, a1, d1, f1, e1, e2, e3, _, rfl, c.clr, r1, D, _, rfl, rfl, by omega, c1B.same sBE, eE, clr_fits c ft, ?_⟩
   obtain ⟨a1, d1, f1, e1, e2, e3⟩ := (c2B.same sBE).at "holds" nf_holds
   refine ⟨_, rfl, _, a1, d1, f1, e1, e2, e3, _, rfl, c.opp, r2, D, _, rfl, rfl, by omega, c2B.same sBE, eE, opp_fits c ft, ?_⟩
   rw [clr_hold c ok ft, opp_hold c ok ft]
   refine ⟨small_line (show 3 ≤ 100000 by decide), fun l hl => ?_⟩
   generalize c.hold (rowOf m cs) = b at hl ⊢
   have sl : Same HE (upd HE l (.lst [.bl b, .bl b, .bl !b])) := Same.new hl
   refine ⟨_, rfl, _, rfl, _, rfl, _, rfl, _, rfl, small_line (show 3 ≤ 100000 by decide), fun l2 hl2 => ?_⟩
   have sl2 := Same.new (o := .lst [.bl b, .bl b, .bl !b]) hl2
   refine ⟨l, l2, _, _, rfl, rfl, SqL.of (sl2 _ _ upd_same), SqL.of upd_same, rfl, rfl, _, rfl, ?_⟩
   refine ite2 (fun z => ?_) (fun _ => ?_)
   ·have z : (!eqL [.bl b, .bl b, .bl !b] [.bl b, .bl b, .bl !b]) = true := z
    rw [eqL_bls] at z
    cases z
   have hl3 : upd (upd HE l (.lst [.bl b, .bl b, .bl !b])) l2 (.lst [.bl b, .bl b, .bl !b]) l = some (.lst [.bl b, .bl b, .bl !b]) := sl2 _ _ upd_same
   have S3 : Same HE (upd (upd HE l (.lst [.bl b, .bl b, .bl !b])) l2 (.lst [.bl b, .bl b, .bl !b])) := sl.trans sl2
   generalize upd (upd HE l (.lst [.bl b, .bl b, .bl !b])) l2 (.lst [.bl b, .bl b, .bl !b]) = HF at hl3 S3
   refine ⟨_, rfl, l, rfl, ⟨_, SqL.of hl3⟩, fun D5 hD5 => ?_⟩
   refine comp_by (J := Itl K l) 3 (fun j τ H3 => ∃ (v0 : Option V), τ = [v0] ∧ Same HF H3 ∧ H3 D5 = some (.lst []))
    ⟨none, rfl, Same.new hD5, upd_same⟩ (fun j τ H3 hj ⟨_, _, sm, _⟩ => ⟨_, ([.bl b, .bl b, .bl !b] : List V)[j], SqL.of (sm _ _ hl3), List.getElem?_eq_getElem hj⟩)
    (fun τ H3 ⟨_, _, sm, _⟩ => ⟨_, SqL.of (sm _ _ hl3), Nat.le_refl _⟩) ?_ ?_
   ·rintro j τ H3 y H4 hj ⟨v0, rfl, sm, hd5⟩ ⟨rfl, hy5⟩
    have e5 := hy5 _ (SqL.of (sm _ _ hl3))
    have hb : ∃ b', y = V.bl b' := by
     match j, hj, e5 with
     | 0, _, e5 => exact ⟨_, (Option.some.inj e5).symm⟩
     | 1, _, e5 => exact ⟨_, (Option.some.inj e5).symm⟩
     | 2, _, e5 => exact ⟨_, (Option.some.inj e5).symm⟩
    obtain ⟨b', rfl⟩ := hb
    exact ⟨_, rfl, _, _, _, _, rfl, .bl b', kit_same, _, rfl, iteF ⟨_, rfl, sm, hd5⟩⟩
   ·rintro τ H3 ⟨v0, rfl, sm, hd5⟩
    refine ⟨small_line (show 0 ≤ 100000 by decide), fun e9 he9 => ?_⟩
    have se9 := Same.new (o := .lst []) he9
    refine ⟨D5, e9, [], [], rfl, rfl, SqL.of (se9 _ _ hd5), SqL.of upd_same, rfl, rfl, _, rfl, iteF ?_⟩
    have SG : Same HE (upd H3 e9 (.lst [])) := (S3.trans sm).trans se9
    refine ⟨_, rfl, _, rfl, _, rfl, _, _, rfl, rfl, cell, _, rfl, by omega, by omega, _, rfl, _, L, qs, cs, rfl, hL.same (SE.trans SG), fun D6 HI hD6 sI eI => ?_⟩
    rw [hm] at eI
    refine ⟨D, D6, rowOf m cs, rfl, rfl, sI _ _ (SG _ _ eE), eI, row_flat G m, _, rfl, iteF ?_⟩
    exact ⟨_, _, _, _, rfl, sBE.trans (SG.trans sI)⟩
  ·rintro σ HC ⟨v7, v8, v9, v10, rfl, sC⟩
   have SC := SB.trans sC
   have hCC := hCB.same sC
   have ekdC := sC _ _ ekdB
   refine ⟨_, rfl, _, rfl, cell, 95, rfl, by decide, by decide, kd, _, cs, rfl, ekdC, G, fun D κ HD sD eD tx => ?_⟩
   have hCD := hCC.same sD
   have ekdD := sD _ _ ekdC
   have SD := SC.trans sD
   refine ⟨_, rfl, _, rfl, c, u, kd, _, rfl, hCD, ok, h5, ekdD, kinds_texts cs, fun _ HE sE => ?_, fun b n fs => ?_⟩
   ·refine ⟨_, rfl, iteF ?_⟩
    have hCE := hCD.same sE
    have SE := SD.trans sE
    have eDE := sE _ _ eD
    refine ⟨_, rfl, _, rfl, c, u, D, κ, rfl, hCE, ok, h5, eDE, tx, fun fn H9 s9 => ?_, fun b n fs t H9 s9 et => ?_⟩
    ·have S9 := SE.trans s9
     refine ⟨_, rfl, _, rfl, c, v, D, κ, rfl, hT.same S9, ok, h5, by omega, s9 _ _ eDE, tx, fun _ HF sF => ?_, fun b n fs => by rw [fn] at fs; cases fs⟩
     refine .inl ⟨rfl, _, rfl, ?_⟩
     have sEF := s9.trans sF
     refine iteF ?_
     have hCF := hCE.same sEF
     have SF := SE.trans sEF
     refine ⟨_, rfl, _, rfl, c, u, v, rfl, hCF, hT.same SF, h5, h5, fun HG sG => ⟨_, rfl, iteF ?_⟩⟩
     have hCG := hCF.same sG
     have SG := SF.trans sG
     obtain ⟨a1, d1, f1, e1, e2, e3⟩ := hCG.at "names_in" nf_namesin
     refine ⟨_, rfl, _, a1, d1, f1, e1, e2, e3, c, u, rfl, rfl, h5, h5, hCG, fun l1 ms1 HH sH pm1 so1 el1 => ?_⟩
     have SH := SG.trans sH
     refine ⟨_, rfl, c, v, rfl, hT.same SH, ok, h5, h5, fun l2 ms2 HI sI pm2 so2 el2 => ?_⟩
     obtain rfl : ms1 = ms2 := sorted_one so1 so2 (pm1.trans pm2.symm)
     refine ⟨l1, l2, _, _, rfl, rfl, SqL.of (sI _ _ el1), SqL.of el2, flat_strs _, flat_strs _, _, rfl, ?_⟩
     refine ite2 (fun _ => ?_) (fun z => absurd (eqL_strs ms1) z)
     have hCI := hCG.same (sH.trans sI)
     obtain ⟨a1, d1, f1, e1, e2, e3⟩ := hCI.at "told" nf_told
     refine ⟨_, rfl, c.k, a1, d1, f1, e1, e2, e3, c, u, rfl, rfl, h5, hCI, fun r9 HJ sJ t9 => ?_⟩
     exact ⟨_, rfl, deq h5 t9 (hT.same ((SH.trans sI).trans sJ)), q _ ((SH.trans sI).trans sJ)⟩
    ·have S9 := SE.trans s9
     refine ⟨_, rfl, _, rfl, c, v, D, κ, rfl, hT.same S9, ok, h5, by omega, s9 _ _ eDE, tx, (fun fn => by rw [fn] at fs; cases fs), fun b' n' fs' t' HF sF et' => ?_⟩
     obtain ⟨rfl, rfl⟩ : b' = b ∧ n' = n := by rw [fs] at fs'; cases fs'; exact ⟨rfl, rfl⟩
     refine .inr ⟨⟨[.fl (.str (if b' then "column" else "kind")), .fl (.str n')], .inl ⟨⟨t, _, rfl, SqT.of (sF _ _ et), .cons (tl_str _ _) (.cons (tl_str _ _) .nil)⟩, ⟨t', _, rfl, SqT.of et', .cons (tl_str _ _) (.cons (tl_str _ _) .nil)⟩⟩⟩, _, rfl, ?_⟩
     have sEF := s9.trans sF
     refine iteF ?_
     have hCF := hCE.same sEF
     have SF := SE.trans sEF
     refine ⟨_, rfl, _, rfl, c, u, v, rfl, hCF, hT.same SF, h5, h5, fun HG sG => ⟨_, rfl, iteF ?_⟩⟩
     have hCG := hCF.same sG
     have SG := SF.trans sG
     obtain ⟨a1, d1, f1, e1, e2, e3⟩ := hCG.at "names_in" nf_namesin
     refine ⟨_, rfl, _, a1, d1, f1, e1, e2, e3, c, u, rfl, rfl, h5, h5, hCG, fun l1 ms1 HH sH pm1 so1 el1 => ?_⟩
     have SH := SG.trans sH
     refine ⟨_, rfl, c, v, rfl, hT.same SH, ok, h5, h5, fun l2 ms2 HI sI pm2 so2 el2 => ?_⟩
     obtain rfl : ms1 = ms2 := sorted_one so1 so2 (pm1.trans pm2.symm)
     refine ⟨l1, l2, _, _, rfl, rfl, SqL.of (sI _ _ el1), SqL.of el2, flat_strs _, flat_strs _, _, rfl, ?_⟩
     refine ite2 (fun _ => ?_) (fun z => absurd (eqL_strs ms1) z)
     have hCI := hCG.same (sH.trans sI)
     obtain ⟨a1, d1, f1, e1, e2, e3⟩ := hCI.at "told" nf_told
     refine ⟨_, rfl, c.k, a1, d1, f1, e1, e2, e3, c, u, rfl, rfl, h5, hCI, fun r9 HJ sJ t9 => ?_⟩
     exact ⟨_, rfl, deq h5 t9 (hT.same ((SH.trans sI).trans sJ)), q _ ((SH.trans sI).trans sJ)⟩
   ·rw [good_fault G gc] at fs
    cases fs
theorem ok_law (T : Txt w K mg) : FnOk P w K mg base CX0 15 T.law.f T.law.fd ["_law_script"] (sp_law K) := by
 have G__law_cell : FnOk P w K mg base CX0 1 T._law_cell.f T._law_cell.fd _ _ := ok__law_cell T
 have G__law_columns_here : FnOk P w K mg base CX0 3 T._law_columns_here.f T._law_columns_here.fd _ _ := ok__law_columns_here T
 have G__law_cond : FnOk P w K mg base CX0 (4 + 5) T._law_cond.f T._law_cond.fd _ _ := ok__law_cond T 5
 have G__law_numbers : FnOk P w K mg base CX0 2 T._law_numbers.f T._law_numbers.fd _ _ := ok__law_numbers T
 have G__law_right : FnOk P w K mg base CX0 14 T._law_right.f T._law_right.fd _ _ := ok__law_right T
 refine T.law.fn.ok sc_law (fun vs H Q E h => ?_) (fun cdv A outer s H vs Q E hr h => ?_)
 ·obtain ⟨a, ns, rfl, _⟩ := h
  rfl
 ·obtain ⟨a, ns, rfl, hS, hlen, k⟩ := h
  refine ⟨_, ((pss_cons (ps_set (i := 1) sc_law.nd rfl (Or.inl rfl) (pe_own G__law_columns_here (hr.mono (by omega)) rfl (pa_cons (pe_own G__law_cell (hr.mono (by omega)) rfl (pa_cons (pv 0) (pa_cons pe_int pa_nil))) pa_nil)))
   (pss_cons (ps_for PassesOwn.never rfl (pi_range2 rfl T.b_range (pa_cons pe_int (pa_cons (pe_callB (call_max2 rfl) (by rfl) T.b_max bt_max (pa_cons pe_int (pa_cons (pe_callB (call_min2 rfl) (by rfl) T.b_min bt_min (pa_cons (pe_callB (call_len_seqK (K := K) rfl) (by rfl) T.b_len bt_len (pa_cons (pv 0) pa_nil)) (pa_cons pe_int pa_nil))) pa_nil))) pa_nil))) (pg_name (i := 2) sc_law.nd rfl (Or.inl rfl)) (pss_cons (ps_set (i := 3) sc_law.nd rfl (Or.inl rfl) (pe_own G__law_cell (hr.mono (by omega)) rfl (pa_cons (pv 0) (pa_cons (pv 2) pa_nil))))
   (pss_one (ps_if (pt_not (pt_val (pe_own G__law_right (hr.mono (by omega)) rfl (pa_cons (pe_own G__law_cond (hr.mono (by omega)) rfl (pa_cons (pe_own G__law_numbers (hr.mono (by omega)) rfl (pa_cons (pv 3) (pa_cons pe_int pa_nil))) (pa_cons (pv 1) (pa_cons pe_int pa_nil)))) (pa_cons (pv 1) (pa_cons (pv 3) pa_nil)))))) (pss_one (ps_ret pe_bl)) pss_nil))))
   (pss_one (ps_ret pe_bl))))), ?_⟩
  refine ⟨_, rfl, a, ns, _, rfl, hS, by decide, fun c0 => ?_⟩
  refine ⟨c0, rfl, fun L qs cs H1 hL s1 eL ca G => ?_⟩
  have hL1 : NmsAt H1 L qs cs := ⟨eL, ca, G⟩
  have hS1 := sq_sm hS s1
  have b1 : (if (41 : Int) < (((ns.map V.int).length : Nat) : Int) then (41 : Int) else (((ns.map V.int).length : Nat) : Int)) ≤ 63 := by
   rw [List.length_map]
   split <;> omega
  have b0 : 0 ≤ (if (41 : Int) < (((ns.map V.int).length : Nat) : Int) then (41 : Int) else (((ns.map V.int).length : Nat) : Int)) := by
   split <;> omega
  refine ⟨_, rfl, a, _, rfl, .inl hS1, _, _, rfl, _, _, rfl, ?_⟩
  generalize (if (41 : Int) < (((ns.map V.int).length : Nat) : Int) then (41 : Int) else (((ns.map V.int).length : Nat) : Int)) = M at b0 b1 ⊢
  have m1 : (if M > (4 : Int) then M else 4) ≤ 63 := by split <;> omega
  have m0 : 0 ≤ (if M > (4 : Int) then M else 4) := by split <;> omega
  generalize (if M > (4 : Int) then M else 4) = N at m0 m1 ⊢
  refine ⟨1, N, rfl, ⟨by decide, by decide, by omega, by omega⟩, for_range (lo := 1) (n := (N - 1).toNat) (fun i σ H2 => ∃ v2 v3, σ = [some (.ref a), some (.ref L), v2, v3] ∧ Same H1 H2)
   ⟨none, none, rfl, Same.refl _⟩ ?_ ?_⟩
  ·rintro i σ H2 hi ⟨v2, v3, rfl, sm⟩
   refine ⟨_, rfl, _, rfl, a, ns, _, rfl, sq_sm hS1 sm, by omega, fun cell => ?_⟩
   refine ⟨_, rfl, cell, rfl, fun p nn H3 hp s3 ep nn0 nl => ?_⟩
   have hN : Nums H3 p nn := ⟨ep, nn0, nl⟩
   have hL3 := hL1.same (sm.trans s3)
   refine ⟨_, rfl, p, L, 5, nn, qs, cs, rfl, by decide, Nat.le_refl _, hN, hL3, fun v c ms H4 b4 hN4 tc gc dc => ?_⟩
   have S4 : Same H2 H4 := fun b o e => b4 b o (ne_of_none e hp) (s3 _ _ e)
   refine ⟨_, rfl, _, rfl, c, v, L, cell, qs, cs, rfl, tc, gc, dc, hL3.but hN b4, fun H5 s5 => ⟨_, rfl, iteF ?_⟩⟩
   exact ⟨_, _, rfl, sm.trans (S4.trans s5)⟩
  ·rintro σ H2 ⟨v2, v3, rfl, sm⟩
   exact k H2
end
theorem all_mk {l : PySem.W.OpenLaw} {w : World} {K : PySem.W.Frag} {h : Heap} {mg : Str → Option Value} {fa : Addr} (X : K.In h) (G : h.Ns mainGlobals mg) (hfa : mg "law" = some (.ref fa))
  {od0 an0 : Option Addr} {sl0 : Array (Option Value)} {oc0 kV0 dc0 pm0 cd0 ct0 : Value} {f0 : Addr}
  {od1 an1 : Option Addr} {sl1 : Array (Option Value)} {oc1 kV1 dc1 pm1 cd1 ct1 : Value} {f1 : Addr}
  {od2 an2 : Option Addr} {sl2 : Array (Option Value)} {oc2 kV2 dc2 pm2 cd2 ct2 : Value} {f2 : Addr}
  {od3 an3 : Option Addr} {sl3 : Array (Option Value)} {oc3 kV3 dc3 pm3 cd3 ct3 : Value} {f3 : Addr}
  {od4 an4 : Option Addr} {sl4 : Array (Option Value)} {oc4 kV4 dc4 pm4 cd4 ct4 : Value} {f4 : Addr}
  {od5 an5 : Option Addr} {sl5 : Array (Option Value)} {oc5 kV5 dc5 pm5 cd5 ct5 : Value} {f5 : Addr}
  {od6 an6 : Option Addr} {sl6 : Array (Option Value)} {oc6 kV6 dc6 pm6 cd6 ct6 : Value} {f6 : Addr}
  {od7 an7 : Option Addr} {sl7 : Array (Option Value)} {oc7 kV7 dc7 pm7 cd7 ct7 : Value} {f7 : Addr}
  {od8 an8 : Option Addr} {sl8 : Array (Option Value)} {oc8 kV8 dc8 pm8 cd8 ct8 : Value} {f8 : Addr}
  {od9 an9 : Option Addr} {sl9 : Array (Option Value)} {oc9 kV9 dc9 pm9 cd9 ct9 : Value} {f9 : Addr}
  {od10 an10 : Option Addr} {sl10 : Array (Option Value)} {oc10 kV10 dc10 pm10 cd10 ct10 : Value} {f10 : Addr}
  {od11 an11 : Option Addr} {sl11 : Array (Option Value)} {oc11 kV11 dc11 pm11 cd11 ct11 : Value} {f11 : Addr}
  {od12 an12 : Option Addr} {sl12 : Array (Option Value)} {oc12 kV12 dc12 pm12 cd12 ct12 : Value} {f12 : Addr}
  {od13 an13 : Option Addr} {sl13 : Array (Option Value)} {oc13 kV13 dc13 pm13 cd13 ct13 : Value} {f13 : Addr}
  {od14 an14 : Option Addr} {sl14 : Array (Option Value)} {oc14 kV14 dc14 pm14 cd14 ct14 : Value} {f14 : Addr}
  {od15 an15 : Option Addr} {sl15 : Array (Option Value)} {oc15 kV15 dc15 pm15 cd15 ct15 : Value} {f15 : Addr}
  {od16 an16 : Option Addr} {sl16 : Array (Option Value)} {oc16 kV16 dc16 pm16 cd16 ct16 : Value} {f16 : Addr}
  {od17 an17 : Option Addr} {sl17 : Array (Option Value)} {oc17 kV17 dc17 pm17 cd17 ct17 : Value} {f17 : Addr}
  {od18 an18 : Option Addr} {sl18 : Array (Option Value)} {oc18 kV18 dc18 pm18 cd18 ct18 : Value} {f18 : Addr}
  {od19 an19 : Option Addr} {sl19 : Array (Option Value)} {oc19 kV19 dc19 pm19 cd19 ct19 : Value} {f19 : Addr}
  {od20 an20 : Option Addr} {sl20 : Array (Option Value)} {oc20 kV20 dc20 pm20 cd20 ct20 : Value} {f20 : Addr}
  {od21 an21 : Option Addr} {sl21 : Array (Option Value)} {oc21 kV21 dc21 pm21 cd21 ct21 : Value} {f21 : Addr}
  {od22 an22 : Option Addr} {sl22 : Array (Option Value)} {oc22 kV22 dc22 pm22 cd22 ct22 : Value} {f22 : Addr}
  {od23 an23 : Option Addr} {sl23 : Array (Option Value)} {oc23 kV23 dc23 pm23 cd23 ct23 : Value} {f23 : Addr}
  {od24 an24 : Option Addr} {sl24 : Array (Option Value)} {oc24 kV24 dc24 pm24 cd24 ct24 : Value} {f24 : Addr}
  {od25 an25 : Option Addr} {sl25 : Array (Option Value)} {oc25 kV25 dc25 pm25 cd25 ct25 : Value} {f25 : Addr}
  {od26 an26 : Option Addr} {sl26 : Array (Option Value)} {oc26 kV26 dc26 pm26 cd26 ct26 : Value} {f26 : Addr}
  {od27 an27 : Option Addr} {sl27 : Array (Option Value)} {oc27 kV27 dc27 pm27 cd27 ct27 : Value} {f27 : Addr}
  {od28 an28 : Option Addr} {sl28 : Array (Option Value)} {oc28 kV28 dc28 pm28 cd28 ct28 : Value} {f28 : Addr}
  {od29 an29 : Option Addr} {sl29 : Array (Option Value)} {oc29 kV29 dc29 pm29 cd29 ct29 : Value} {f29 : Addr}
  {od30 an30 : Option Addr} {sl30 : Array (Option Value)} {oc30 kV30 dc30 pm30 cd30 ct30 : Value} {f30 : Addr}
  {od31 an31 : Option Addr} {sl31 : Array (Option Value)} {oc31 kV31 dc31 pm31 cd31 ct31 : Value} {f31 : Addr}
  {od32 an32 : Option Addr} {sl32 : Array (Option Value)} {oc32 kV32 dc32 pm32 cd32 ct32 : Value} {f32 : Addr}
  {od33 an33 : Option Addr} {sl33 : Array (Option Value)} {oc33 kV33 dc33 pm33 cd33 ct33 : Value} {f33 : Addr}
  {od34 an34 : Option Addr} {sl34 : Array (Option Value)} {oc34 kV34 dc34 pm34 cd34 ct34 : Value} {f34 : Addr}
  {od35 an35 : Option Addr} {sl35 : Array (Option Value)} {oc35 kV35 dc35 pm35 cd35 ct35 : Value} {f35 : Addr}
  {od36 an36 : Option Addr} {sl36 : Array (Option Value)} {oc36 kV36 dc36 pm36 cd36 ct36 : Value} {f36 : Addr}
  {od37 an37 : Option Addr} {sl37 : Array (Option Value)} {oc37 kV37 dc37 pm37 cd37 ct37 : Value} {f37 : Addr}
  {od38 an38 : Option Addr} {sl38 : Array (Option Value)} {oc38 kV38 dc38 pm38 cd38 ct38 : Value} {f38 : Addr}
  {od39 an39 : Option Addr} {sl39 : Array (Option Value)} {oc39 kV39 dc39 pm39 cd39 ct39 : Value} {f39 : Addr}
  {od40 an40 : Option Addr} {sl40 : Array (Option Value)} {oc40 kV40 dc40 pm40 cd40 ct40 : Value} {f40 : Addr}
  {od41 an41 : Option Addr} {sl41 : Array (Option Value)} {oc41 kV41 dc41 pm41 cd41 ct41 : Value} {f41 : Addr}
  {od42 an42 : Option Addr} {sl42 : Array (Option Value)} {oc42 kV42 dc42 pm42 cd42 ct42 : Value} {f42 : Addr}
  {od43 an43 : Option Addr} {sl43 : Array (Option Value)} {oc43 kV43 dc43 pm43 cd43 ct43 : Value} {f43 : Addr}
  {od44 an44 : Option Addr} {sl44 : Array (Option Value)} {oc44 kV44 dc44 pm44 cd44 ct44 : Value} {f44 : Addr}
  {od45 an45 : Option Addr} {sl45 : Array (Option Value)} {oc45 kV45 dc45 pm45 cd45 ct45 : Value} {f45 : Addr}
  {od46 an46 : Option Addr} {sl46 : Array (Option Value)} {oc46 kV46 dc46 pm46 cd46 ct46 : Value} {f46 : Addr}
  {od47 an47 : Option Addr} {sl47 : Array (Option Value)} {oc47 kV47 dc47 pm47 cd47 ct47 : Value} {f47 : Addr}
  {od48 an48 : Option Addr} {sl48 : Array (Option Value)} {oc48 kV48 dc48 pm48 cd48 ct48 : Value} {f48 : Addr}
  {od49 an49 : Option Addr} {sl49 : Array (Option Value)} {oc49 kV49 dc49 pm49 cd49 ct49 : Value} {f49 : Addr}
  {od50 an50 : Option Addr} {sl50 : Array (Option Value)} {oc50 kV50 dc50 pm50 cd50 ct50 : Value} {f50 : Addr}
  {od51 an51 : Option Addr} {sl51 : Array (Option Value)} {oc51 kV51 dc51 pm51 cd51 ct51 : Value} {f51 : Addr}
  {od52 an52 : Option Addr} {sl52 : Array (Option Value)} {oc52 kV52 dc52 pm52 cd52 ct52 : Value} {f52 : Addr}
  {od53 an53 : Option Addr} {sl53 : Array (Option Value)} {oc53 kV53 dc53 pm53 cd53 ct53 : Value} {f53 : Addr}
  {od54 an54 : Option Addr} {sl54 : Array (Option Value)} {oc54 kV54 dc54 pm54 cd54 ct54 : Value} {f54 : Addr}
  {od55 an55 : Option Addr} {sl55 : Array (Option Value)} {oc55 kV55 dc55 pm55 cd55 ct55 : Value} {f55 : Addr}
  {od56 an56 : Option Addr} {sl56 : Array (Option Value)} {oc56 kV56 dc56 pm56 cd56 ct56 : Value} {f56 : Addr}
  {od57 an57 : Option Addr} {sl57 : Array (Option Value)} {oc57 kV57 dc57 pm57 cd57 ct57 : Value} {f57 : Addr}
  {od58 an58 : Option Addr} {sl58 : Array (Option Value)} {oc58 kV58 dc58 pm58 cd58 ct58 : Value} {f58 : Addr}
  {od59 an59 : Option Addr} {sl59 : Array (Option Value)} {oc59 kV59 dc59 pm59 cd59 ct59 : Value} {f59 : Addr}
  {od60 an60 : Option Addr} {sl60 : Array (Option Value)} {oc60 kV60 dc60 pm60 cd60 ct60 : Value} {f60 : Addr}
  {od61 an61 : Option Addr} {sl61 : Array (Option Value)} {oc61 kV61 dc61 pm61 cd61 ct61 : Value} {f61 : Addr}
  {od62 an62 : Option Addr} {sl62 : Array (Option Value)} {oc62 kV62 dc62 pm62 cd62 ct62 : Value} {f62 : Addr}
  {od63 an63 : Option Addr} {sl63 : Array (Option Value)} {oc63 kV63 dc63 pm63 cd63 ct63 : Value} {f63 : Addr}
  {od64 an64 : Option Addr} {sl64 : Array (Option Value)} {oc64 kV64 dc64 pm64 cd64 ct64 : Value} {f64 : Addr}
  {od65 an65 : Option Addr} {sl65 : Array (Option Value)} {oc65 kV65 dc65 pm65 cd65 ct65 : Value} {f65 : Addr}
  {od66 an66 : Option Addr} {sl66 : Array (Option Value)} {oc66 kV66 dc66 pm66 cd66 ct66 : Value} {f66 : Addr}
  {od67 an67 : Option Addr} {sl67 : Array (Option Value)} {oc67 kV67 dc67 pm67 cd67 ct67 : Value} {f67 : Addr}
  {od68 an68 : Option Addr} {sl68 : Array (Option Value)} {oc68 kV68 dc68 pm68 cd68 ct68 : Value} {f68 : Addr}
  {od69 an69 : Option Addr} {sl69 : Array (Option Value)} {oc69 kV69 dc69 pm69 cd69 ct69 : Value} {f69 : Addr}
  {od70 an70 : Option Addr} {sl70 : Array (Option Value)} {oc70 kV70 dc70 pm70 cd70 ct70 : Value} {f70 : Addr}
  {od71 an71 : Option Addr} {sl71 : Array (Option Value)} {oc71 kV71 dc71 pm71 cd71 ct71 : Value} {f71 : Addr}
  {od72 an72 : Option Addr} {sl72 : Array (Option Value)} {oc72 kV72 dc72 pm72 cd72 ct72 : Value} {f72 : Addr}
  {od73 an73 : Option Addr} {sl73 : Array (Option Value)} {oc73 kV73 dc73 pm73 cd73 ct73 : Value} {f73 : Addr}
  {od74 an74 : Option Addr} {sl74 : Array (Option Value)} {oc74 kV74 dc74 pm74 cd74 ct74 : Value} {f74 : Addr}
  {od75 an75 : Option Addr} {sl75 : Array (Option Value)} {oc75 kV75 dc75 pm75 cd75 ct75 : Value} {f75 : Addr}
  {od76 an76 : Option Addr} {sl76 : Array (Option Value)} {oc76 kV76 dc76 pm76 cd76 ct76 : Value} {f76 : Addr}
  {C_Compare : Addr}
  {C_And : Addr}
  {C_Or : Addr}
  {C_Not : Addr}
  {C_NoColumn : Addr}
  {C_WrongKind : Addr}
  {C_Cond : Addr}
  {D_OPPOSITE : Addr} {oD_OPPOSITE : Obj} {eD_OPPOSITE : Array DictEntry} {pD_OPPOSITE : Nat}
  {t_ALONE_TIES : Tok}
  {t_AND_TIES : Tok}
  {t_OR_TIES : Tok}
  (aC_Compare : PySem.W.nsIn K mainGlobals "Compare" = some (some (.ref C_Compare)))
  (pg_Compare : PySem.W.plainGet K C_Compare Str.empty = true)
  (hd_Compare : PySem.W.hasDictIn K C_Compare = true)
  (po_Compare : PySem.W.plainOver K C_Compare = true)
  (sa_Compare : PySem.W.findIn K (.ref C_Compare) "__setattr__" = some (some (.builtin "object.__setattr__")))
  (mk_Compare : PySem.W.makesIn K C_Compare = true)
  (kc_Compare : PySem.W.keepIn K (.ref C_Compare) = true)
  (n_Compare_left : PySem.W.findIn K (.ref C_Compare) "left" = some none)
  (n_Compare_sign : PySem.W.findIn K (.ref C_Compare) "sign" = some none)
  (n_Compare_right : PySem.W.findIn K (.ref C_Compare) "right" = some none)
  (aC_And : PySem.W.nsIn K mainGlobals "And" = some (some (.ref C_And)))
  (pg_And : PySem.W.plainGet K C_And Str.empty = true)
  (hd_And : PySem.W.hasDictIn K C_And = true)
  (po_And : PySem.W.plainOver K C_And = true)
  (sa_And : PySem.W.findIn K (.ref C_And) "__setattr__" = some (some (.builtin "object.__setattr__")))
  (mk_And : PySem.W.makesIn K C_And = true)
  (kc_And : PySem.W.keepIn K (.ref C_And) = true)
  (n_And_first : PySem.W.findIn K (.ref C_And) "first" = some none)
  (n_And_second : PySem.W.findIn K (.ref C_And) "second" = some none)
  (aC_Or : PySem.W.nsIn K mainGlobals "Or" = some (some (.ref C_Or)))
  (pg_Or : PySem.W.plainGet K C_Or Str.empty = true)
  (hd_Or : PySem.W.hasDictIn K C_Or = true)
  (po_Or : PySem.W.plainOver K C_Or = true)
  (sa_Or : PySem.W.findIn K (.ref C_Or) "__setattr__" = some (some (.builtin "object.__setattr__")))
  (mk_Or : PySem.W.makesIn K C_Or = true)
  (kc_Or : PySem.W.keepIn K (.ref C_Or) = true)
  (n_Or_first : PySem.W.findIn K (.ref C_Or) "first" = some none)
  (n_Or_second : PySem.W.findIn K (.ref C_Or) "second" = some none)
  (aC_Not : PySem.W.nsIn K mainGlobals "Not" = some (some (.ref C_Not)))
  (pg_Not : PySem.W.plainGet K C_Not Str.empty = true)
  (hd_Not : PySem.W.hasDictIn K C_Not = true)
  (po_Not : PySem.W.plainOver K C_Not = true)
  (sa_Not : PySem.W.findIn K (.ref C_Not) "__setattr__" = some (some (.builtin "object.__setattr__")))
  (mk_Not : PySem.W.makesIn K C_Not = true)
  (kc_Not : PySem.W.keepIn K (.ref C_Not) = true)
  (n_Not_inside : PySem.W.findIn K (.ref C_Not) "inside" = some none)
  (i_Compare : PySem.W.findIn K (.ref C_Compare) "__class__" = some (some (.builtin "object.__class__")))
  (j_Compare : PySem.W.specialIn K (.builtin "object.__class__") "__get__" = some (some (.builtin "getset_descriptor.__get__")))
  (h_Compare : PySem.W.takesIn K (.builtin "object.__class__") = some true)
  (m_Compare : PySem.W.mroIn K C_Compare (.type "object") = some true)
  (i_And : PySem.W.findIn K (.ref C_And) "__class__" = some (some (.builtin "object.__class__")))
  (j_And : PySem.W.specialIn K (.builtin "object.__class__") "__get__" = some (some (.builtin "getset_descriptor.__get__")))
  (h_And : PySem.W.takesIn K (.builtin "object.__class__") = some true)
  (m_And : PySem.W.mroIn K C_And (.type "object") = some true)
  (i_Or : PySem.W.findIn K (.ref C_Or) "__class__" = some (some (.builtin "object.__class__")))
  (j_Or : PySem.W.specialIn K (.builtin "object.__class__") "__get__" = some (some (.builtin "getset_descriptor.__get__")))
  (h_Or : PySem.W.takesIn K (.builtin "object.__class__") = some true)
  (m_Or : PySem.W.mroIn K C_Or (.type "object") = some true)
  (i_Not : PySem.W.findIn K (.ref C_Not) "__class__" = some (some (.builtin "object.__class__")))
  (j_Not : PySem.W.specialIn K (.builtin "object.__class__") "__get__" = some (some (.builtin "getset_descriptor.__get__")))
  (h_Not : PySem.W.takesIn K (.builtin "object.__class__") = some true)
  (m_Not : PySem.W.mroIn K C_Not (.type "object") = some true)
  (aX_NoColumn : PySem.W.nsIn K mainGlobals "NoColumn" = some (some (.ref C_NoColumn)))
  (aX_WrongKind : PySem.W.nsIn K mainGlobals "WrongKind" = some (some (.ref C_WrongKind)))
  (aX_Cond : PySem.W.nsIn K mainGlobals "Cond" = some (some (.ref C_Cond)))
  (e_cc : PySem.W.exmOne K (.ref C_NoColumn) (.ref C_NoColumn) = some true)
  (e_wc : PySem.W.exmOne K (.ref C_WrongKind) (.ref C_NoColumn) = some false)
  (e_ww : PySem.W.exmOne K (.ref C_WrongKind) (.ref C_WrongKind) = some true)
  (q_Compare : PySem.W.kitOne K (.ref C_Compare) (.ref C_Cond) = some true)
  (q_And : PySem.W.kitOne K (.ref C_And) (.ref C_Cond) = some true)
  (q_Or : PySem.W.kitOne K (.ref C_Or) (.ref C_Cond) = some true)
  (q_Not : PySem.W.kitOne K (.ref C_Not) (.ref C_Cond) = some true)
  (yB_NoColumn : xisB K C_NoColumn = true)
  (xI_NoColumn : exiIn K C_NoColumn f0 = true)
  (kB_NoColumn : PySem.W.keepIn K (.ref C_NoColumn) = true)
  (aB_NoColumn : xatB K C_NoColumn ["name"] = true)
  (yB_WrongKind : xisB K C_WrongKind = true)
  (xI_WrongKind : exiIn K C_WrongKind f1 = true)
  (kB_WrongKind : PySem.W.keepIn K (.ref C_WrongKind) = true)
  (aB_WrongKind : xatB K C_WrongKind ["name"] = true)
  (a0 : PySem.W.findIn K (.ref C_NoColumn) "__init__" = some (some (.ref f0)))
  (i0 : PySem.W.isFn K (.ref f0) = true)
  (l0 : K.lookup f0 = some ⟨oc0, od0, .func (PySem.W.fnOf "__init__" "NoColumn.__init__" (defArgs s_NoColumn___init__) (defBody s_NoColumn___init__) (defScope s_NoColumn___init__) .none kV0 dc0 pm0 an0 cd0 ct0), sl0⟩)
  (c0 : PySem.W.codeIn K cd0 "NoColumn.__init__" = true)
  (k0 : PySem.W.keepIn K (.ref f0) = true)
  (a1 : PySem.W.findIn K (.ref C_WrongKind) "__init__" = some (some (.ref f1)))
  (i1 : PySem.W.isFn K (.ref f1) = true)
  (l1 : K.lookup f1 = some ⟨oc1, od1, .func (PySem.W.fnOf "__init__" "WrongKind.__init__" (defArgs s_WrongKind___init__) (defBody s_WrongKind___init__) (defScope s_WrongKind___init__) .none kV1 dc1 pm1 an1 cd1 ct1), sl1⟩)
  (c1 : PySem.W.codeIn K cd1 "WrongKind.__init__" = true)
  (k1 : PySem.W.keepIn K (.ref f1) = true)
  (a2 : PySem.W.nsIn K mainGlobals "is_whole" = some (some (.ref f2)))
  (l2 : K.lookup f2 = some ⟨oc2, od2, .func (PySem.W.fnOf "is_whole" "is_whole" (defArgs s_is_whole) (defBody s_is_whole) (defScope s_is_whole) .none kV2 dc2 pm2 an2 cd2 ct2), sl2⟩)
  (c2 : PySem.W.codeIn K cd2 "is_whole" = true)
  (k2 : PySem.W.keepIn K (.ref f2) = true)
  (a3 : PySem.W.nsIn K mainGlobals "value_text" = some (some (.ref f3)))
  (l3 : K.lookup f3 = some ⟨oc3, od3, .func (PySem.W.fnOf "value_text" "value_text" (defArgs s_value_text) (defBody s_value_text) (defScope s_value_text) .none kV3 dc3 pm3 an3 cd3 ct3), sl3⟩)
  (c3 : PySem.W.codeIn K cd3 "value_text" = true)
  (k3 : PySem.W.keepIn K (.ref f3) = true)
  (a4 : PySem.W.nsIn K mainGlobals "stands" = some (some (.ref f4)))
  (l4 : K.lookup f4 = some ⟨oc4, od4, .func (PySem.W.fnOf "stands" "stands" (defArgs s_stands) (defBody s_stands) (defScope s_stands) .none kV4 dc4 pm4 an4 cd4 ct4), sl4⟩)
  (c4 : PySem.W.codeIn K cd4 "stands" = true)
  (k4 : PySem.W.keepIn K (.ref f4) = true)
  (a5 : PySem.W.nsIn K mainGlobals "kind_of_value" = some (some (.ref f5)))
  (l5 : K.lookup f5 = some ⟨oc5, od5, .func (PySem.W.fnOf "kind_of_value" "kind_of_value" (defArgs s_kind_of_value) (defBody s_kind_of_value) (defScope s_kind_of_value) .none kV5 dc5 pm5 an5 cd5 ct5), sl5⟩)
  (c5 : PySem.W.codeIn K cd5 "kind_of_value" = true)
  (k5 : PySem.W.keepIn K (.ref f5) = true)
  (a6 : PySem.W.nsIn K mainGlobals "atom_text" = some (some (.ref f6)))
  (l6 : K.lookup f6 = some ⟨oc6, od6, .func (PySem.W.fnOf "atom_text" "atom_text" (defArgs s_atom_text) (defBody s_atom_text) (defScope s_atom_text) .none kV6 dc6 pm6 an6 cd6 ct6), sl6⟩)
  (c6 : PySem.W.codeIn K cd6 "atom_text" = true)
  (k6 : PySem.W.keepIn K (.ref f6) = true)
  (a7 : PySem.W.nsIn K mainGlobals "text_within" = some (some (.ref f7)))
  (l7 : K.lookup f7 = some ⟨oc7, od7, .func (PySem.W.fnOf "text_within" "text_within" (defArgs s_text_within) (defBody s_text_within) (defScope s_text_within) .none kV7 dc7 pm7 an7 cd7 ct7), sl7⟩)
  (c7 : PySem.W.codeIn K cd7 "text_within" = true)
  (k7 : PySem.W.keepIn K (.ref f7) = true)
  (a8 : PySem.W.findIn K (.ref C_Compare) "__init__" = some (some (.ref f8)))
  (i8 : PySem.W.isFn K (.ref f8) = true)
  (l8 : K.lookup f8 = some ⟨oc8, od8, .func (PySem.W.fnOf "__init__" "Compare.__init__" (defArgs s_Compare___init__) (defBody s_Compare___init__) (defScope s_Compare___init__) .none kV8 dc8 pm8 an8 cd8 ct8), sl8⟩)
  (c8 : PySem.W.codeIn K cd8 "Compare.__init__" = true)
  (k8 : PySem.W.keepIn K (.ref f8) = true)
  (a9 : PySem.W.findIn K (.ref C_Compare) "right_value" = some (some (.ref f9)))
  (i9 : PySem.W.isFn K (.ref f9) = true)
  (l9 : K.lookup f9 = some ⟨oc9, od9, .func (PySem.W.fnOf "right_value" "Compare.right_value" (defArgs s_Compare_right_value) (defBody s_Compare_right_value) (defScope s_Compare_right_value) .none kV9 dc9 pm9 an9 cd9 ct9), sl9⟩)
  (c9 : PySem.W.codeIn K cd9 "Compare.right_value" = true)
  (k9 : PySem.W.keepIn K (.ref f9) = true)
  (a10 : PySem.W.findIn K (.ref C_Compare) "holds" = some (some (.ref f10)))
  (i10 : PySem.W.isFn K (.ref f10) = true)
  (l10 : K.lookup f10 = some ⟨oc10, od10, .func (PySem.W.fnOf "holds" "Compare.holds" (defArgs s_Compare_holds) (defBody s_Compare_holds) (defScope s_Compare_holds) .none kV10 dc10 pm10 an10 cd10 ct10), sl10⟩)
  (c10 : PySem.W.codeIn K cd10 "Compare.holds" = true)
  (k10 : PySem.W.keepIn K (.ref f10) = true)
  (a11 : PySem.W.findIn K (.ref C_Compare) "names_as_told" = some (some (.ref f11)))
  (i11 : PySem.W.isFn K (.ref f11) = true)
  (l11 : K.lookup f11 = some ⟨oc11, od11, .func (PySem.W.fnOf "names_as_told" "Compare.names_as_told" (defArgs s_Compare_names_as_told) (defBody s_Compare_names_as_told) (defScope s_Compare_names_as_told) .none kV11 dc11 pm11 an11 cd11 ct11), sl11⟩)
  (c11 : PySem.W.codeIn K cd11 "Compare.names_as_told" = true)
  (k11 : PySem.W.keepIn K (.ref f11) = true)
  (a12 : PySem.W.findIn K (.ref C_Compare) "parts" = some (some (.ref f12)))
  (i12 : PySem.W.isFn K (.ref f12) = true)
  (l12 : K.lookup f12 = some ⟨oc12, od12, .func (PySem.W.fnOf "parts" "Compare.parts" (defArgs s_Compare_parts) (defBody s_Compare_parts) (defScope s_Compare_parts) .none kV12 dc12 pm12 an12 cd12 ct12), sl12⟩)
  (c12 : PySem.W.codeIn K cd12 "Compare.parts" = true)
  (k12 : PySem.W.keepIn K (.ref f12) = true)
  (a13 : PySem.W.findIn K (.ref C_Compare) "right_kind" = some (some (.ref f13)))
  (i13 : PySem.W.isFn K (.ref f13) = true)
  (l13 : K.lookup f13 = some ⟨oc13, od13, .func (PySem.W.fnOf "right_kind" "Compare.right_kind" (defArgs s_Compare_right_kind) (defBody s_Compare_right_kind) (defScope s_Compare_right_kind) .none kV13 dc13 pm13 an13 cd13 ct13), sl13⟩)
  (c13 : PySem.W.codeIn K cd13 "Compare.right_kind" = true)
  (k13 : PySem.W.keepIn K (.ref f13) = true)
  (a14 : PySem.W.findIn K (.ref C_Compare) "judged" = some (some (.ref f14)))
  (i14 : PySem.W.isFn K (.ref f14) = true)
  (l14 : K.lookup f14 = some ⟨oc14, od14, .func (PySem.W.fnOf "judged" "Compare.judged" (defArgs s_Compare_judged) (defBody s_Compare_judged) (defScope s_Compare_judged) .none kV14 dc14 pm14 an14 cd14 ct14), sl14⟩)
  (c14 : PySem.W.codeIn K cd14 "Compare.judged" = true)
  (k14 : PySem.W.keepIn K (.ref f14) = true)
  (a15 : PySem.W.findIn K (.ref C_Compare) "cleared" = some (some (.ref f15)))
  (i15 : PySem.W.isFn K (.ref f15) = true)
  (l15 : K.lookup f15 = some ⟨oc15, od15, .func (PySem.W.fnOf "cleared" "Compare.cleared" (defArgs s_Compare_cleared) (defBody s_Compare_cleared) (defScope s_Compare_cleared) .none kV15 dc15 pm15 an15 cd15 ct15), sl15⟩)
  (c15 : PySem.W.codeIn K cd15 "Compare.cleared" = true)
  (k15 : PySem.W.keepIn K (.ref f15) = true)
  (a16 : PySem.W.findIn K (.ref C_Compare) "opposite" = some (some (.ref f16)))
  (i16 : PySem.W.isFn K (.ref f16) = true)
  (l16 : K.lookup f16 = some ⟨oc16, od16, .func (PySem.W.fnOf "opposite" "Compare.opposite" (defArgs s_Compare_opposite) (defBody s_Compare_opposite) (defScope s_Compare_opposite) .none kV16 dc16 pm16 an16 cd16 ct16), sl16⟩)
  (c16 : PySem.W.codeIn K cd16 "Compare.opposite" = true)
  (k16 : PySem.W.keepIn K (.ref f16) = true)
  (a17 : PySem.W.findIn K (.ref C_Compare) "told" = some (some (.ref f17)))
  (i17 : PySem.W.isFn K (.ref f17) = true)
  (l17 : K.lookup f17 = some ⟨oc17, od17, .func (PySem.W.fnOf "told" "Compare.told" (defArgs s_Compare_told) (defBody s_Compare_told) (defScope s_Compare_told) .none kV17 dc17 pm17 an17 cd17 ct17), sl17⟩)
  (c17 : PySem.W.codeIn K cd17 "Compare.told" = true)
  (k17 : PySem.W.keepIn K (.ref f17) = true)
  (a18 : PySem.W.findIn K (.ref C_Compare) "text" = some (some (.ref f18)))
  (i18 : PySem.W.isFn K (.ref f18) = true)
  (l18 : K.lookup f18 = some ⟨oc18, od18, .func (PySem.W.fnOf "text" "Compare.text" (defArgs s_Compare_text) (defBody s_Compare_text) (defScope s_Compare_text) .none kV18 dc18 pm18 an18 cd18 ct18), sl18⟩)
  (c18 : PySem.W.codeIn K cd18 "Compare.text" = true)
  (k18 : PySem.W.keepIn K (.ref f18) = true)
  (a19 : PySem.W.findIn K (.ref C_Compare) "names_in" = some (some (.ref f19)))
  (i19 : PySem.W.isFn K (.ref f19) = true)
  (l19 : K.lookup f19 = some ⟨oc19, od19, .func (PySem.W.fnOf "names_in" "Cond.names_in" (defArgs s_Compare_names_in) (defBody s_Compare_names_in) (defScope s_Compare_names_in) .none kV19 dc19 pm19 an19 cd19 ct19), sl19⟩)
  (c19 : PySem.W.codeIn K cd19 "Cond.names_in" = true)
  (k19 : PySem.W.keepIn K (.ref f19) = true)
  (a20 : PySem.W.findIn K (.ref C_Compare) "ties" = some (some (.ref f20)))
  (i20 : PySem.W.isFn K (.ref f20) = true)
  (l20 : K.lookup f20 = some ⟨oc20, od20, .func (PySem.W.fnOf "ties" "Cond.ties" (defArgs s_Compare_ties) (defBody s_Compare_ties) (defScope s_Compare_ties) .none kV20 dc20 pm20 an20 cd20 ct20), sl20⟩)
  (c20 : PySem.W.codeIn K cd20 "Cond.ties" = true)
  (k20 : PySem.W.keepIn K (.ref f20) = true)
  (a21 : PySem.W.findIn K (.ref C_And) "__init__" = some (some (.ref f21)))
  (i21 : PySem.W.isFn K (.ref f21) = true)
  (l21 : K.lookup f21 = some ⟨oc21, od21, .func (PySem.W.fnOf "__init__" "And.__init__" (defArgs s_And___init__) (defBody s_And___init__) (defScope s_And___init__) .none kV21 dc21 pm21 an21 cd21 ct21), sl21⟩)
  (c21 : PySem.W.codeIn K cd21 "And.__init__" = true)
  (k21 : PySem.W.keepIn K (.ref f21) = true)
  (a22 : PySem.W.findIn K (.ref C_And) "holds" = some (some (.ref f22)))
  (i22 : PySem.W.isFn K (.ref f22) = true)
  (l22 : K.lookup f22 = some ⟨oc22, od22, .func (PySem.W.fnOf "holds" "And.holds" (defArgs s_And_holds) (defBody s_And_holds) (defScope s_And_holds) .none kV22 dc22 pm22 an22 cd22 ct22), sl22⟩)
  (c22 : PySem.W.codeIn K cd22 "And.holds" = true)
  (k22 : PySem.W.keepIn K (.ref f22) = true)
  (a23 : PySem.W.findIn K (.ref C_And) "parts" = some (some (.ref f23)))
  (i23 : PySem.W.isFn K (.ref f23) = true)
  (l23 : K.lookup f23 = some ⟨oc23, od23, .func (PySem.W.fnOf "parts" "And.parts" (defArgs s_And_parts) (defBody s_And_parts) (defScope s_And_parts) .none kV23 dc23 pm23 an23 cd23 ct23), sl23⟩)
  (c23 : PySem.W.codeIn K cd23 "And.parts" = true)
  (k23 : PySem.W.keepIn K (.ref f23) = true)
  (a24 : PySem.W.findIn K (.ref C_And) "cleared" = some (some (.ref f24)))
  (i24 : PySem.W.isFn K (.ref f24) = true)
  (l24 : K.lookup f24 = some ⟨oc24, od24, .func (PySem.W.fnOf "cleared" "And.cleared" (defArgs s_And_cleared) (defBody s_And_cleared) (defScope s_And_cleared) .none kV24 dc24 pm24 an24 cd24 ct24), sl24⟩)
  (c24 : PySem.W.codeIn K cd24 "And.cleared" = true)
  (k24 : PySem.W.keepIn K (.ref f24) = true)
  (a25 : PySem.W.findIn K (.ref C_And) "opposite" = some (some (.ref f25)))
  (i25 : PySem.W.isFn K (.ref f25) = true)
  (l25 : K.lookup f25 = some ⟨oc25, od25, .func (PySem.W.fnOf "opposite" "And.opposite" (defArgs s_And_opposite) (defBody s_And_opposite) (defScope s_And_opposite) .none kV25 dc25 pm25 an25 cd25 ct25), sl25⟩)
  (c25 : PySem.W.codeIn K cd25 "And.opposite" = true)
  (k25 : PySem.W.keepIn K (.ref f25) = true)
  (a26 : PySem.W.findIn K (.ref C_And) "told" = some (some (.ref f26)))
  (i26 : PySem.W.isFn K (.ref f26) = true)
  (l26 : K.lookup f26 = some ⟨oc26, od26, .func (PySem.W.fnOf "told" "And.told" (defArgs s_And_told) (defBody s_And_told) (defScope s_And_told) .none kV26 dc26 pm26 an26 cd26 ct26), sl26⟩)
  (c26 : PySem.W.codeIn K cd26 "And.told" = true)
  (k26 : PySem.W.keepIn K (.ref f26) = true)
  (a27 : PySem.W.findIn K (.ref C_And) "text" = some (some (.ref f27)))
  (i27 : PySem.W.isFn K (.ref f27) = true)
  (l27 : K.lookup f27 = some ⟨oc27, od27, .func (PySem.W.fnOf "text" "And.text" (defArgs s_And_text) (defBody s_And_text) (defScope s_And_text) .none kV27 dc27 pm27 an27 cd27 ct27), sl27⟩)
  (c27 : PySem.W.codeIn K cd27 "And.text" = true)
  (k27 : PySem.W.keepIn K (.ref f27) = true)
  (a28 : PySem.W.findIn K (.ref C_And) "ties" = some (some (.ref f28)))
  (i28 : PySem.W.isFn K (.ref f28) = true)
  (l28 : K.lookup f28 = some ⟨oc28, od28, .func (PySem.W.fnOf "ties" "And.ties" (defArgs s_And_ties) (defBody s_And_ties) (defScope s_And_ties) .none kV28 dc28 pm28 an28 cd28 ct28), sl28⟩)
  (c28 : PySem.W.codeIn K cd28 "And.ties" = true)
  (k28 : PySem.W.keepIn K (.ref f28) = true)
  (a29 : PySem.W.findIn K (.ref C_And) "names_as_told" = some (some (.ref f29)))
  (i29 : PySem.W.isFn K (.ref f29) = true)
  (l29 : K.lookup f29 = some ⟨oc29, od29, .func (PySem.W.fnOf "names_as_told" "Cond.names_as_told" (defArgs s_And_names_as_told) (defBody s_And_names_as_told) (defScope s_And_names_as_told) .none kV29 dc29 pm29 an29 cd29 ct29), sl29⟩)
  (c29 : PySem.W.codeIn K cd29 "Cond.names_as_told" = true)
  (k29 : PySem.W.keepIn K (.ref f29) = true)
  (a30 : PySem.W.findIn K (.ref C_And) "names_in" = some (some (.ref f30)))
  (i30 : PySem.W.isFn K (.ref f30) = true)
  (l30 : K.lookup f30 = some ⟨oc30, od30, .func (PySem.W.fnOf "names_in" "Cond.names_in" (defArgs s_And_names_in) (defBody s_And_names_in) (defScope s_And_names_in) .none kV30 dc30 pm30 an30 cd30 ct30), sl30⟩)
  (c30 : PySem.W.codeIn K cd30 "Cond.names_in" = true)
  (k30 : PySem.W.keepIn K (.ref f30) = true)
  (a31 : PySem.W.findIn K (.ref C_And) "judged" = some (some (.ref f31)))
  (i31 : PySem.W.isFn K (.ref f31) = true)
  (l31 : K.lookup f31 = some ⟨oc31, od31, .func (PySem.W.fnOf "judged" "Cond.judged" (defArgs s_And_judged) (defBody s_And_judged) (defScope s_And_judged) .none kV31 dc31 pm31 an31 cd31 ct31), sl31⟩)
  (c31 : PySem.W.codeIn K cd31 "Cond.judged" = true)
  (k31 : PySem.W.keepIn K (.ref f31) = true)
  (a32 : PySem.W.findIn K (.ref C_Or) "__init__" = some (some (.ref f32)))
  (i32 : PySem.W.isFn K (.ref f32) = true)
  (l32 : K.lookup f32 = some ⟨oc32, od32, .func (PySem.W.fnOf "__init__" "Or.__init__" (defArgs s_Or___init__) (defBody s_Or___init__) (defScope s_Or___init__) .none kV32 dc32 pm32 an32 cd32 ct32), sl32⟩)
  (c32 : PySem.W.codeIn K cd32 "Or.__init__" = true)
  (k32 : PySem.W.keepIn K (.ref f32) = true)
  (a33 : PySem.W.findIn K (.ref C_Or) "holds" = some (some (.ref f33)))
  (i33 : PySem.W.isFn K (.ref f33) = true)
  (l33 : K.lookup f33 = some ⟨oc33, od33, .func (PySem.W.fnOf "holds" "Or.holds" (defArgs s_Or_holds) (defBody s_Or_holds) (defScope s_Or_holds) .none kV33 dc33 pm33 an33 cd33 ct33), sl33⟩)
  (c33 : PySem.W.codeIn K cd33 "Or.holds" = true)
  (k33 : PySem.W.keepIn K (.ref f33) = true)
  (a34 : PySem.W.findIn K (.ref C_Or) "parts" = some (some (.ref f34)))
  (i34 : PySem.W.isFn K (.ref f34) = true)
  (l34 : K.lookup f34 = some ⟨oc34, od34, .func (PySem.W.fnOf "parts" "Or.parts" (defArgs s_Or_parts) (defBody s_Or_parts) (defScope s_Or_parts) .none kV34 dc34 pm34 an34 cd34 ct34), sl34⟩)
  (c34 : PySem.W.codeIn K cd34 "Or.parts" = true)
  (k34 : PySem.W.keepIn K (.ref f34) = true)
  (a35 : PySem.W.findIn K (.ref C_Or) "cleared" = some (some (.ref f35)))
  (i35 : PySem.W.isFn K (.ref f35) = true)
  (l35 : K.lookup f35 = some ⟨oc35, od35, .func (PySem.W.fnOf "cleared" "Or.cleared" (defArgs s_Or_cleared) (defBody s_Or_cleared) (defScope s_Or_cleared) .none kV35 dc35 pm35 an35 cd35 ct35), sl35⟩)
  (c35 : PySem.W.codeIn K cd35 "Or.cleared" = true)
  (k35 : PySem.W.keepIn K (.ref f35) = true)
  (a36 : PySem.W.findIn K (.ref C_Or) "opposite" = some (some (.ref f36)))
  (i36 : PySem.W.isFn K (.ref f36) = true)
  (l36 : K.lookup f36 = some ⟨oc36, od36, .func (PySem.W.fnOf "opposite" "Or.opposite" (defArgs s_Or_opposite) (defBody s_Or_opposite) (defScope s_Or_opposite) .none kV36 dc36 pm36 an36 cd36 ct36), sl36⟩)
  (c36 : PySem.W.codeIn K cd36 "Or.opposite" = true)
  (k36 : PySem.W.keepIn K (.ref f36) = true)
  (a37 : PySem.W.findIn K (.ref C_Or) "told" = some (some (.ref f37)))
  (i37 : PySem.W.isFn K (.ref f37) = true)
  (l37 : K.lookup f37 = some ⟨oc37, od37, .func (PySem.W.fnOf "told" "Or.told" (defArgs s_Or_told) (defBody s_Or_told) (defScope s_Or_told) .none kV37 dc37 pm37 an37 cd37 ct37), sl37⟩)
  (c37 : PySem.W.codeIn K cd37 "Or.told" = true)
  (k37 : PySem.W.keepIn K (.ref f37) = true)
  (a38 : PySem.W.findIn K (.ref C_Or) "text" = some (some (.ref f38)))
  (i38 : PySem.W.isFn K (.ref f38) = true)
  (l38 : K.lookup f38 = some ⟨oc38, od38, .func (PySem.W.fnOf "text" "Or.text" (defArgs s_Or_text) (defBody s_Or_text) (defScope s_Or_text) .none kV38 dc38 pm38 an38 cd38 ct38), sl38⟩)
  (c38 : PySem.W.codeIn K cd38 "Or.text" = true)
  (k38 : PySem.W.keepIn K (.ref f38) = true)
  (a39 : PySem.W.findIn K (.ref C_Or) "ties" = some (some (.ref f39)))
  (i39 : PySem.W.isFn K (.ref f39) = true)
  (l39 : K.lookup f39 = some ⟨oc39, od39, .func (PySem.W.fnOf "ties" "Or.ties" (defArgs s_Or_ties) (defBody s_Or_ties) (defScope s_Or_ties) .none kV39 dc39 pm39 an39 cd39 ct39), sl39⟩)
  (c39 : PySem.W.codeIn K cd39 "Or.ties" = true)
  (k39 : PySem.W.keepIn K (.ref f39) = true)
  (a40 : PySem.W.findIn K (.ref C_Or) "names_as_told" = some (some (.ref f40)))
  (i40 : PySem.W.isFn K (.ref f40) = true)
  (l40 : K.lookup f40 = some ⟨oc40, od40, .func (PySem.W.fnOf "names_as_told" "Cond.names_as_told" (defArgs s_Or_names_as_told) (defBody s_Or_names_as_told) (defScope s_Or_names_as_told) .none kV40 dc40 pm40 an40 cd40 ct40), sl40⟩)
  (c40 : PySem.W.codeIn K cd40 "Cond.names_as_told" = true)
  (k40 : PySem.W.keepIn K (.ref f40) = true)
  (a41 : PySem.W.findIn K (.ref C_Or) "names_in" = some (some (.ref f41)))
  (i41 : PySem.W.isFn K (.ref f41) = true)
  (l41 : K.lookup f41 = some ⟨oc41, od41, .func (PySem.W.fnOf "names_in" "Cond.names_in" (defArgs s_Or_names_in) (defBody s_Or_names_in) (defScope s_Or_names_in) .none kV41 dc41 pm41 an41 cd41 ct41), sl41⟩)
  (c41 : PySem.W.codeIn K cd41 "Cond.names_in" = true)
  (k41 : PySem.W.keepIn K (.ref f41) = true)
  (a42 : PySem.W.findIn K (.ref C_Or) "judged" = some (some (.ref f42)))
  (i42 : PySem.W.isFn K (.ref f42) = true)
  (l42 : K.lookup f42 = some ⟨oc42, od42, .func (PySem.W.fnOf "judged" "Cond.judged" (defArgs s_Or_judged) (defBody s_Or_judged) (defScope s_Or_judged) .none kV42 dc42 pm42 an42 cd42 ct42), sl42⟩)
  (c42 : PySem.W.codeIn K cd42 "Cond.judged" = true)
  (k42 : PySem.W.keepIn K (.ref f42) = true)
  (a43 : PySem.W.findIn K (.ref C_Not) "__init__" = some (some (.ref f43)))
  (i43 : PySem.W.isFn K (.ref f43) = true)
  (l43 : K.lookup f43 = some ⟨oc43, od43, .func (PySem.W.fnOf "__init__" "Not.__init__" (defArgs s_Not___init__) (defBody s_Not___init__) (defScope s_Not___init__) .none kV43 dc43 pm43 an43 cd43 ct43), sl43⟩)
  (c43 : PySem.W.codeIn K cd43 "Not.__init__" = true)
  (k43 : PySem.W.keepIn K (.ref f43) = true)
  (a44 : PySem.W.findIn K (.ref C_Not) "holds" = some (some (.ref f44)))
  (i44 : PySem.W.isFn K (.ref f44) = true)
  (l44 : K.lookup f44 = some ⟨oc44, od44, .func (PySem.W.fnOf "holds" "Not.holds" (defArgs s_Not_holds) (defBody s_Not_holds) (defScope s_Not_holds) .none kV44 dc44 pm44 an44 cd44 ct44), sl44⟩)
  (c44 : PySem.W.codeIn K cd44 "Not.holds" = true)
  (k44 : PySem.W.keepIn K (.ref f44) = true)
  (a45 : PySem.W.findIn K (.ref C_Not) "parts" = some (some (.ref f45)))
  (i45 : PySem.W.isFn K (.ref f45) = true)
  (l45 : K.lookup f45 = some ⟨oc45, od45, .func (PySem.W.fnOf "parts" "Not.parts" (defArgs s_Not_parts) (defBody s_Not_parts) (defScope s_Not_parts) .none kV45 dc45 pm45 an45 cd45 ct45), sl45⟩)
  (c45 : PySem.W.codeIn K cd45 "Not.parts" = true)
  (k45 : PySem.W.keepIn K (.ref f45) = true)
  (a46 : PySem.W.findIn K (.ref C_Not) "cleared" = some (some (.ref f46)))
  (i46 : PySem.W.isFn K (.ref f46) = true)
  (l46 : K.lookup f46 = some ⟨oc46, od46, .func (PySem.W.fnOf "cleared" "Not.cleared" (defArgs s_Not_cleared) (defBody s_Not_cleared) (defScope s_Not_cleared) .none kV46 dc46 pm46 an46 cd46 ct46), sl46⟩)
  (c46 : PySem.W.codeIn K cd46 "Not.cleared" = true)
  (k46 : PySem.W.keepIn K (.ref f46) = true)
  (a47 : PySem.W.findIn K (.ref C_Not) "opposite" = some (some (.ref f47)))
  (i47 : PySem.W.isFn K (.ref f47) = true)
  (l47 : K.lookup f47 = some ⟨oc47, od47, .func (PySem.W.fnOf "opposite" "Not.opposite" (defArgs s_Not_opposite) (defBody s_Not_opposite) (defScope s_Not_opposite) .none kV47 dc47 pm47 an47 cd47 ct47), sl47⟩)
  (c47 : PySem.W.codeIn K cd47 "Not.opposite" = true)
  (k47 : PySem.W.keepIn K (.ref f47) = true)
  (a48 : PySem.W.findIn K (.ref C_Not) "told" = some (some (.ref f48)))
  (i48 : PySem.W.isFn K (.ref f48) = true)
  (l48 : K.lookup f48 = some ⟨oc48, od48, .func (PySem.W.fnOf "told" "Not.told" (defArgs s_Not_told) (defBody s_Not_told) (defScope s_Not_told) .none kV48 dc48 pm48 an48 cd48 ct48), sl48⟩)
  (c48 : PySem.W.codeIn K cd48 "Not.told" = true)
  (k48 : PySem.W.keepIn K (.ref f48) = true)
  (a49 : PySem.W.findIn K (.ref C_Not) "text" = some (some (.ref f49)))
  (i49 : PySem.W.isFn K (.ref f49) = true)
  (l49 : K.lookup f49 = some ⟨oc49, od49, .func (PySem.W.fnOf "text" "Not.text" (defArgs s_Not_text) (defBody s_Not_text) (defScope s_Not_text) .none kV49 dc49 pm49 an49 cd49 ct49), sl49⟩)
  (c49 : PySem.W.codeIn K cd49 "Not.text" = true)
  (k49 : PySem.W.keepIn K (.ref f49) = true)
  (a50 : PySem.W.findIn K (.ref C_Not) "names_as_told" = some (some (.ref f50)))
  (i50 : PySem.W.isFn K (.ref f50) = true)
  (l50 : K.lookup f50 = some ⟨oc50, od50, .func (PySem.W.fnOf "names_as_told" "Cond.names_as_told" (defArgs s_Not_names_as_told) (defBody s_Not_names_as_told) (defScope s_Not_names_as_told) .none kV50 dc50 pm50 an50 cd50 ct50), sl50⟩)
  (c50 : PySem.W.codeIn K cd50 "Cond.names_as_told" = true)
  (k50 : PySem.W.keepIn K (.ref f50) = true)
  (a51 : PySem.W.findIn K (.ref C_Not) "names_in" = some (some (.ref f51)))
  (i51 : PySem.W.isFn K (.ref f51) = true)
  (l51 : K.lookup f51 = some ⟨oc51, od51, .func (PySem.W.fnOf "names_in" "Cond.names_in" (defArgs s_Not_names_in) (defBody s_Not_names_in) (defScope s_Not_names_in) .none kV51 dc51 pm51 an51 cd51 ct51), sl51⟩)
  (c51 : PySem.W.codeIn K cd51 "Cond.names_in" = true)
  (k51 : PySem.W.keepIn K (.ref f51) = true)
  (a52 : PySem.W.findIn K (.ref C_Not) "judged" = some (some (.ref f52)))
  (i52 : PySem.W.isFn K (.ref f52) = true)
  (l52 : K.lookup f52 = some ⟨oc52, od52, .func (PySem.W.fnOf "judged" "Cond.judged" (defArgs s_Not_judged) (defBody s_Not_judged) (defScope s_Not_judged) .none kV52 dc52 pm52 an52 cd52 ct52), sl52⟩)
  (c52 : PySem.W.codeIn K cd52 "Cond.judged" = true)
  (k52 : PySem.W.keepIn K (.ref f52) = true)
  (a53 : PySem.W.findIn K (.ref C_Not) "ties" = some (some (.ref f53)))
  (i53 : PySem.W.isFn K (.ref f53) = true)
  (l53 : K.lookup f53 = some ⟨oc53, od53, .func (PySem.W.fnOf "ties" "Cond.ties" (defArgs s_Not_ties) (defBody s_Not_ties) (defScope s_Not_ties) .none kV53 dc53 pm53 an53 cd53 ct53), sl53⟩)
  (c53 : PySem.W.codeIn K cd53 "Cond.ties" = true)
  (k53 : PySem.W.keepIn K (.ref f53) = true)
  (a54 : PySem.W.nsIn K mainGlobals "_law_cell" = some (some (.ref f54)))
  (l54 : K.lookup f54 = some ⟨oc54, od54, .func (PySem.W.fnOf "_law_cell" "_law_cell" (defArgs s__law_cell) (defBody s__law_cell) (defScope s__law_cell) .none kV54 dc54 pm54 an54 cd54 ct54), sl54⟩)
  (c54 : PySem.W.codeIn K cd54 "_law_cell" = true)
  (k54 : PySem.W.keepIn K (.ref f54) = true)
  (a55 : PySem.W.nsIn K mainGlobals "_law_mix" = some (some (.ref f55)))
  (l55 : K.lookup f55 = some ⟨oc55, od55, .func (PySem.W.fnOf "_law_mix" "_law_mix" (defArgs s__law_mix) (defBody s__law_mix) (defScope s__law_mix) .none kV55 dc55 pm55 an55 cd55 ct55), sl55⟩)
  (c55 : PySem.W.codeIn K cd55 "_law_mix" = true)
  (k55 : PySem.W.keepIn K (.ref f55) = true)
  (a56 : PySem.W.nsIn K mainGlobals "_law_numbers" = some (some (.ref f56)))
  (l56 : K.lookup f56 = some ⟨oc56, od56, .func (PySem.W.fnOf "_law_numbers" "_law_numbers" (defArgs s__law_numbers) (defBody s__law_numbers) (defScope s__law_numbers) .none kV56 dc56 pm56 an56 cd56 ct56), sl56⟩)
  (c56 : PySem.W.codeIn K cd56 "_law_numbers" = true)
  (k56 : PySem.W.keepIn K (.ref f56) = true)
  (a57 : PySem.W.nsIn K mainGlobals "_law_next" = some (some (.ref f57)))
  (l57 : K.lookup f57 = some ⟨oc57, od57, .func (PySem.W.fnOf "_law_next" "_law_next" (defArgs s__law_next) (defBody s__law_next) (defScope s__law_next) .none kV57 dc57 pm57 an57 cd57 ct57), sl57⟩)
  (c57 : PySem.W.codeIn K cd57 "_law_next" = true)
  (k57 : PySem.W.keepIn K (.ref f57) = true)
  (a58 : PySem.W.nsIn K mainGlobals "_law_words" = some (some (.ref f58)))
  (l58 : K.lookup f58 = some ⟨oc58, od58, .func (PySem.W.fnOf "_law_words" "_law_words" (defArgs s__law_words) (defBody s__law_words) (defScope s__law_words) .none kV58 dc58 pm58 an58 cd58 ct58), sl58⟩)
  (c58 : PySem.W.codeIn K cd58 "_law_words" = true)
  (k58 : PySem.W.keepIn K (.ref f58) = true)
  (a59 : PySem.W.nsIn K mainGlobals "_law_atom" = some (some (.ref f59)))
  (l59 : K.lookup f59 = some ⟨oc59, od59, .func (PySem.W.fnOf "_law_atom" "_law_atom" (defArgs s__law_atom) (defBody s__law_atom) (defScope s__law_atom) .none kV59 dc59 pm59 an59 cd59 ct59), sl59⟩)
  (c59 : PySem.W.codeIn K cd59 "_law_atom" = true)
  (k59 : PySem.W.keepIn K (.ref f59) = true)
  (a60 : PySem.W.nsIn K mainGlobals "_law_compare" = some (some (.ref f60)))
  (l60 : K.lookup f60 = some ⟨oc60, od60, .func (PySem.W.fnOf "_law_compare" "_law_compare" (defArgs s__law_compare) (defBody s__law_compare) (defScope s__law_compare) .none kV60 dc60 pm60 an60 cd60 ct60), sl60⟩)
  (c60 : PySem.W.codeIn K cd60 "_law_compare" = true)
  (k60 : PySem.W.keepIn K (.ref f60) = true)
  (a61 : PySem.W.nsIn K mainGlobals "_law_cond" = some (some (.ref f61)))
  (l61 : K.lookup f61 = some ⟨oc61, od61, .func (PySem.W.fnOf "_law_cond" "_law_cond" (defArgs s__law_cond) (defBody s__law_cond) (defScope s__law_cond) .none kV61 dc61 pm61 an61 cd61 ct61), sl61⟩)
  (c61 : PySem.W.codeIn K cd61 "_law_cond" = true)
  (k61 : PySem.W.keepIn K (.ref f61) = true)
  (a62 : PySem.W.nsIn K mainGlobals "_law_cond_built" = some (some (.ref f62)))
  (l62 : K.lookup f62 = some ⟨oc62, od62, .func (PySem.W.fnOf "_law_cond_built" "_law_cond_built" (defArgs s__law_cond_built) (defBody s__law_cond_built) (defScope s__law_cond_built) .none kV62 dc62 pm62 an62 cd62 ct62), sl62⟩)
  (c62 : PySem.W.codeIn K cd62 "_law_cond_built" = true)
  (k62 : PySem.W.keepIn K (.ref f62) = true)
  (a63 : PySem.W.nsIn K mainGlobals "_law_held" = some (some (.ref f63)))
  (l63 : K.lookup f63 = some ⟨oc63, od63, .func (PySem.W.fnOf "_law_held" "_law_held" (defArgs s__law_held) (defBody s__law_held) (defScope s__law_held) .none kV63 dc63 pm63 an63 cd63 ct63), sl63⟩)
  (c63 : PySem.W.codeIn K cd63 "_law_held" = true)
  (k63 : PySem.W.keepIn K (.ref f63) = true)
  (a64 : PySem.W.nsIn K mainGlobals "_law_plain" = some (some (.ref f64)))
  (l64 : K.lookup f64 = some ⟨oc64, od64, .func (PySem.W.fnOf "_law_plain" "_law_plain" (defArgs s__law_plain) (defBody s__law_plain) (defScope s__law_plain) .none kV64 dc64 pm64 an64 cd64 ct64), sl64⟩)
  (c64 : PySem.W.codeIn K cd64 "_law_plain" = true)
  (k64 : PySem.W.keepIn K (.ref f64) = true)
  (a65 : PySem.W.nsIn K mainGlobals "_law_compares" = some (some (.ref f65)))
  (l65 : K.lookup f65 = some ⟨oc65, od65, .func (PySem.W.fnOf "_law_compares" "_law_compares" (defArgs s__law_compares) (defBody s__law_compares) (defScope s__law_compares) .none kV65 dc65 pm65 an65 cd65 ct65), sl65⟩)
  (c65 : PySem.W.codeIn K cd65 "_law_compares" = true)
  (k65 : PySem.W.keepIn K (.ref f65) = true)
  (a66 : PySem.W.nsIn K mainGlobals "_law_fault" = some (some (.ref f66)))
  (l66 : K.lookup f66 = some ⟨oc66, od66, .func (PySem.W.fnOf "_law_fault" "_law_fault" (defArgs s__law_fault) (defBody s__law_fault) (defScope s__law_fault) .none kV66 dc66 pm66 an66 cd66 ct66), sl66⟩)
  (c66 : PySem.W.codeIn K cd66 "_law_fault" = true)
  (k66 : PySem.W.keepIn K (.ref f66) = true)
  (a67 : PySem.W.nsIn K mainGlobals "_law_atom_text" = some (some (.ref f67)))
  (l67 : K.lookup f67 = some ⟨oc67, od67, .func (PySem.W.fnOf "_law_atom_text" "_law_atom_text" (defArgs s__law_atom_text) (defBody s__law_atom_text) (defScope s__law_atom_text) .none kV67 dc67 pm67 an67 cd67 ct67), sl67⟩)
  (c67 : PySem.W.codeIn K cd67 "_law_atom_text" = true)
  (k67 : PySem.W.keepIn K (.ref f67) = true)
  (a68 : PySem.W.nsIn K mainGlobals "_law_cond_text" = some (some (.ref f68)))
  (l68 : K.lookup f68 = some ⟨oc68, od68, .func (PySem.W.fnOf "_law_cond_text" "_law_cond_text" (defArgs s__law_cond_text) (defBody s__law_cond_text) (defScope s__law_cond_text) .none kV68 dc68 pm68 an68 cd68 ct68), sl68⟩)
  (c68 : PySem.W.codeIn K cd68 "_law_cond_text" = true)
  (k68 : PySem.W.keepIn K (.ref f68) = true)
  (a69 : PySem.W.nsIn K mainGlobals "_law_columns_here" = some (some (.ref f69)))
  (l69 : K.lookup f69 = some ⟨oc69, od69, .func (PySem.W.fnOf "_law_columns_here" "_law_columns_here" (defArgs s__law_columns_here) (defBody s__law_columns_here) (defScope s__law_columns_here) .none kV69 dc69 pm69 an69 cd69 ct69), sl69⟩)
  (c69 : PySem.W.codeIn K cd69 "_law_columns_here" = true)
  (k69 : PySem.W.keepIn K (.ref f69) = true)
  (a70 : PySem.W.nsIn K mainGlobals "_law_row" = some (some (.ref f70)))
  (l70 : K.lookup f70 = some ⟨oc70, od70, .func (PySem.W.fnOf "_law_row" "_law_row" (defArgs s__law_row) (defBody s__law_row) (defScope s__law_row) .none kV70 dc70 pm70 an70 cd70 ct70), sl70⟩)
  (c70 : PySem.W.codeIn K cd70 "_law_row" = true)
  (k70 : PySem.W.keepIn K (.ref f70) = true)
  (a71 : PySem.W.nsIn K mainGlobals "_law_judged" = some (some (.ref f71)))
  (l71 : K.lookup f71 = some ⟨oc71, od71, .func (PySem.W.fnOf "_law_judged" "_law_judged" (defArgs s__law_judged) (defBody s__law_judged) (defScope s__law_judged) .none kV71 dc71 pm71 an71 cd71 ct71), sl71⟩)
  (c71 : PySem.W.codeIn K cd71 "_law_judged" = true)
  (k71 : PySem.W.keepIn K (.ref f71) = true)
  (a72 : PySem.W.nsIn K mainGlobals "_law_turned" = some (some (.ref f72)))
  (l72 : K.lookup f72 = some ⟨oc72, od72, .func (PySem.W.fnOf "_law_turned" "_law_turned" (defArgs s__law_turned) (defBody s__law_turned) (defScope s__law_turned) .none kV72 dc72 pm72 an72 cd72 ct72), sl72⟩)
  (c72 : PySem.W.codeIn K cd72 "_law_turned" = true)
  (k72 : PySem.W.keepIn K (.ref f72) = true)
  (a73 : PySem.W.nsIn K mainGlobals "_law_names_within" = some (some (.ref f73)))
  (l73 : K.lookup f73 = some ⟨oc73, od73, .func (PySem.W.fnOf "_law_names_within" "_law_names_within" (defArgs s__law_names_within) (defBody s__law_names_within) (defScope s__law_names_within) .none kV73 dc73 pm73 an73 cd73 ct73), sl73⟩)
  (c73 : PySem.W.codeIn K cd73 "_law_names_within" = true)
  (k73 : PySem.W.keepIn K (.ref f73) = true)
  (a74 : PySem.W.nsIn K mainGlobals "_law_parts_right" = some (some (.ref f74)))
  (l74 : K.lookup f74 = some ⟨oc74, od74, .func (PySem.W.fnOf "_law_parts_right" "_law_parts_right" (defArgs s__law_parts_right) (defBody s__law_parts_right) (defScope s__law_parts_right) .none kV74 dc74 pm74 an74 cd74 ct74), sl74⟩)
  (c74 : PySem.W.codeIn K cd74 "_law_parts_right" = true)
  (k74 : PySem.W.keepIn K (.ref f74) = true)
  (a75 : PySem.W.nsIn K mainGlobals "_law_right" = some (some (.ref f75)))
  (l75 : K.lookup f75 = some ⟨oc75, od75, .func (PySem.W.fnOf "_law_right" "_law_right" (defArgs s__law_right) (defBody s__law_right) (defScope s__law_right) .none kV75 dc75 pm75 an75 cd75 ct75), sl75⟩)
  (c75 : PySem.W.codeIn K cd75 "_law_right" = true)
  (k75 : PySem.W.keepIn K (.ref f75) = true)
  (a76 : PySem.W.nsIn K mainGlobals "law" = some (some (.ref f76)))
  (l76 : K.lookup f76 = some ⟨oc76, od76, .func (PySem.W.fnOf "law" "law" (defArgs s_law) (defBody s_law) (defScope s_law) .none kV76 dc76 pm76 an76 cd76 ct76), sl76⟩)
  (c76 : PySem.W.codeIn K cd76 "law" = true)
  (k76 : PySem.W.keepIn K (.ref f76) = true)
  (z_bool : PySem.W.nsIn K mainGlobals "bool" = some none)
  (z_dict : PySem.W.nsIn K mainGlobals "dict" = some none)
  (z_int : PySem.W.nsIn K mainGlobals "int" = some none)
  (z_isinstance : PySem.W.nsIn K mainGlobals "isinstance" = some none)
  (z_len : PySem.W.nsIn K mainGlobals "len" = some none)
  (z_max : PySem.W.nsIn K mainGlobals "max" = some none)
  (z_min : PySem.W.nsIn K mainGlobals "min" = some none)
  (z_range : PySem.W.nsIn K mainGlobals "range" = some none)
  (z_set : PySem.W.nsIn K mainGlobals "set" = some none)
  (z_sorted : PySem.W.nsIn K mainGlobals "sorted" = some none)
  (z_str : PySem.W.nsIn K mainGlobals "str" = some none)
  (g_ALONE_TIES : PySem.W.nsIn K mainGlobals "ALONE_TIES" = some (some (.int 3 t_ALONE_TIES)))
  (g_AND_TIES : PySem.W.nsIn K mainGlobals "AND_TIES" = some (some (.int 2 t_AND_TIES)))
  (g_OR_TIES : PySem.W.nsIn K mainGlobals "OR_TIES" = some (some (.int 1 t_OR_TIES)))
  (nD_OPPOSITE : PySem.W.nsIn K mainGlobals "OPPOSITE" = some (some (.ref D_OPPOSITE)))
  (lD_OPPOSITE : K.lookup D_OPPOSITE = some oD_OPPOSITE)
  (xD_OPPOSITE : oD_OPPOSITE.ExactDict)
  (tD_OPPOSITE : oD_OPPOSITE.data = .dict eD_OPPOSITE pD_OPPOSITE)
  (kD_OPPOSITE : (eD_OPPOSITE.toList.map fun e => (e.hash, txOf e.key, txOf e.val)) = kv_OPPOSITE.map fun k => (hashStr w k.1, some k.1, some k.2)) :
  ∃ fd : FuncData, (∀ (s : Shared) (v : Value), BindsTo s fd ⟨[v], []⟩ [("_law_script", v)]) ∧ ∀ base : Heap, K.In base → base.Ns mainGlobals mg → FnOk l.prog w K mg base CX0 15 fa fd ["_law_script"] (sp_law K) := by
 have e := hfa.symm.trans (PySem.W.mg_of X G a76)
 cases e
 have F0 := fun_mk (st := s_NoColumn___init__) l0 c0 k0
 have b0 := F0.binds (ps := ["self", "name"]) fun _ _ _ _ _ _ us hl => match us, hl with | [_, _], _ => rfl
 have F1 := fun_mk (st := s_WrongKind___init__) l1 c1 k1
 have b1 := F1.binds (ps := ["self", "name"]) fun _ _ _ _ _ _ us hl => match us, hl with | [_, _], _ => rfl
 have F2 := fun_mk (st := s_is_whole) l2 c2 k2
 have b2 := F2.binds (ps := ["thing"]) fun _ _ _ _ _ _ us hl => match us, hl with | [_], _ => rfl
 have F3 := fun_mk (st := s_value_text) l3 c3 k3
 have b3 := F3.binds (ps := ["value"]) fun _ _ _ _ _ _ us hl => match us, hl with | [_], _ => rfl
 have F4 := fun_mk (st := s_stands) l4 c4 k4
 have b4 := F4.binds (ps := ["sign", "one", "other"]) fun _ _ _ _ _ _ us hl => match us, hl with | [_, _, _], _ => rfl
 have F5 := fun_mk (st := s_kind_of_value) l5 c5 k5
 have b5 := F5.binds (ps := ["value"]) fun _ _ _ _ _ _ us hl => match us, hl with | [_], _ => rfl
 have F6 := fun_mk (st := s_atom_text) l6 c6 k6
 have b6 := F6.binds (ps := ["atom"]) fun _ _ _ _ _ _ us hl => match us, hl with | [_], _ => rfl
 have F7 := fun_mk (st := s_text_within) l7 c7 k7
 have b7 := F7.binds (ps := ["cond", "least"]) fun _ _ _ _ _ _ us hl => match us, hl with | [_, _], _ => rfl
 have F8 := fun_mk (st := s_Compare___init__) l8 c8 k8
 have b8 := F8.binds (ps := ["self", "left", "sign", "right"]) fun _ _ _ _ _ _ us hl => match us, hl with | [_, _, _, _], _ => rfl
 have F9 := fun_mk (st := s_Compare_right_value) l9 c9 k9
 have b9 := F9.binds (ps := ["self", "values"]) fun _ _ _ _ _ _ us hl => match us, hl with | [_, _], _ => rfl
 have F10 := fun_mk (st := s_Compare_holds) l10 c10 k10
 have b10 := F10.binds (ps := ["self", "values"]) fun _ _ _ _ _ _ us hl => match us, hl with | [_, _], _ => rfl
 have F11 := fun_mk (st := s_Compare_names_as_told) l11 c11 k11
 have b11 := F11.binds (ps := ["self"]) fun _ _ _ _ _ _ us hl => match us, hl with | [_], _ => rfl
 have F12 := fun_mk (st := s_Compare_parts) l12 c12 k12
 have b12 := F12.binds (ps := ["self"]) fun _ _ _ _ _ _ us hl => match us, hl with | [_], _ => rfl
 have F13 := fun_mk (st := s_Compare_right_kind) l13 c13 k13
 have b13 := F13.binds (ps := ["self", "kinds"]) fun _ _ _ _ _ _ us hl => match us, hl with | [_, _], _ => rfl
 have F14 := fun_mk (st := s_Compare_judged) l14 c14 k14
 have b14 := F14.binds (ps := ["self", "kinds"]) fun _ _ _ _ _ _ us hl => match us, hl with | [_, _], _ => rfl
 have F15 := fun_mk (st := s_Compare_cleared) l15 c15 k15
 have b15 := F15.binds (ps := ["self"]) fun _ _ _ _ _ _ us hl => match us, hl with | [_], _ => rfl
 have F16 := fun_mk (st := s_Compare_opposite) l16 c16 k16
 have b16 := F16.binds (ps := ["self"]) fun _ _ _ _ _ _ us hl => match us, hl with | [_], _ => rfl
 have F17 := fun_mk (st := s_Compare_told) l17 c17 k17
 have b17 := F17.binds (ps := ["self"]) fun _ _ _ _ _ _ us hl => match us, hl with | [_], _ => rfl
 have F18 := fun_mk (st := s_Compare_text) l18 c18 k18
 have b18 := F18.binds (ps := ["self"]) fun _ _ _ _ _ _ us hl => match us, hl with | [_], _ => rfl
 have F19 := fun_mk (st := s_Compare_names_in) l19 c19 k19
 have b19 := F19.binds (ps := ["self"]) fun _ _ _ _ _ _ us hl => match us, hl with | [_], _ => rfl
 have F20 := fun_mk (st := s_Compare_ties) l20 c20 k20
 have b20 := F20.binds (ps := ["self"]) fun _ _ _ _ _ _ us hl => match us, hl with | [_], _ => rfl
 have F21 := fun_mk (st := s_And___init__) l21 c21 k21
 have b21 := F21.binds (ps := ["self", "first", "second"]) fun _ _ _ _ _ _ us hl => match us, hl with | [_, _, _], _ => rfl
 have F22 := fun_mk (st := s_And_holds) l22 c22 k22
 have b22 := F22.binds (ps := ["self", "values"]) fun _ _ _ _ _ _ us hl => match us, hl with | [_, _], _ => rfl
 have F23 := fun_mk (st := s_And_parts) l23 c23 k23
 have b23 := F23.binds (ps := ["self"]) fun _ _ _ _ _ _ us hl => match us, hl with | [_], _ => rfl
 have F24 := fun_mk (st := s_And_cleared) l24 c24 k24
 have b24 := F24.binds (ps := ["self"]) fun _ _ _ _ _ _ us hl => match us, hl with | [_], _ => rfl
 have F25 := fun_mk (st := s_And_opposite) l25 c25 k25
 have b25 := F25.binds (ps := ["self"]) fun _ _ _ _ _ _ us hl => match us, hl with | [_], _ => rfl
 have F26 := fun_mk (st := s_And_told) l26 c26 k26
 have b26 := F26.binds (ps := ["self"]) fun _ _ _ _ _ _ us hl => match us, hl with | [_], _ => rfl
 have F27 := fun_mk (st := s_And_text) l27 c27 k27
 have b27 := F27.binds (ps := ["self"]) fun _ _ _ _ _ _ us hl => match us, hl with | [_], _ => rfl
 have F28 := fun_mk (st := s_And_ties) l28 c28 k28
 have b28 := F28.binds (ps := ["self"]) fun _ _ _ _ _ _ us hl => match us, hl with | [_], _ => rfl
 have F29 := fun_mk (st := s_And_names_as_told) l29 c29 k29
 have b29 := F29.binds (ps := ["self"]) fun _ _ _ _ _ _ us hl => match us, hl with | [_], _ => rfl
 have F30 := fun_mk (st := s_And_names_in) l30 c30 k30
 have b30 := F30.binds (ps := ["self"]) fun _ _ _ _ _ _ us hl => match us, hl with | [_], _ => rfl
 have F31 := fun_mk (st := s_And_judged) l31 c31 k31
 have b31 := F31.binds (ps := ["self", "kinds"]) fun _ _ _ _ _ _ us hl => match us, hl with | [_, _], _ => rfl
 have F32 := fun_mk (st := s_Or___init__) l32 c32 k32
 have b32 := F32.binds (ps := ["self", "first", "second"]) fun _ _ _ _ _ _ us hl => match us, hl with | [_, _, _], _ => rfl
 have F33 := fun_mk (st := s_Or_holds) l33 c33 k33
 have b33 := F33.binds (ps := ["self", "values"]) fun _ _ _ _ _ _ us hl => match us, hl with | [_, _], _ => rfl
 have F34 := fun_mk (st := s_Or_parts) l34 c34 k34
 have b34 := F34.binds (ps := ["self"]) fun _ _ _ _ _ _ us hl => match us, hl with | [_], _ => rfl
 have F35 := fun_mk (st := s_Or_cleared) l35 c35 k35
 have b35 := F35.binds (ps := ["self"]) fun _ _ _ _ _ _ us hl => match us, hl with | [_], _ => rfl
 have F36 := fun_mk (st := s_Or_opposite) l36 c36 k36
 have b36 := F36.binds (ps := ["self"]) fun _ _ _ _ _ _ us hl => match us, hl with | [_], _ => rfl
 have F37 := fun_mk (st := s_Or_told) l37 c37 k37
 have b37 := F37.binds (ps := ["self"]) fun _ _ _ _ _ _ us hl => match us, hl with | [_], _ => rfl
 have F38 := fun_mk (st := s_Or_text) l38 c38 k38
 have b38 := F38.binds (ps := ["self"]) fun _ _ _ _ _ _ us hl => match us, hl with | [_], _ => rfl
 have F39 := fun_mk (st := s_Or_ties) l39 c39 k39
 have b39 := F39.binds (ps := ["self"]) fun _ _ _ _ _ _ us hl => match us, hl with | [_], _ => rfl
 have F40 := fun_mk (st := s_Or_names_as_told) l40 c40 k40
 have b40 := F40.binds (ps := ["self"]) fun _ _ _ _ _ _ us hl => match us, hl with | [_], _ => rfl
 have F41 := fun_mk (st := s_Or_names_in) l41 c41 k41
 have b41 := F41.binds (ps := ["self"]) fun _ _ _ _ _ _ us hl => match us, hl with | [_], _ => rfl
 have F42 := fun_mk (st := s_Or_judged) l42 c42 k42
 have b42 := F42.binds (ps := ["self", "kinds"]) fun _ _ _ _ _ _ us hl => match us, hl with | [_, _], _ => rfl
 have F43 := fun_mk (st := s_Not___init__) l43 c43 k43
 have b43 := F43.binds (ps := ["self", "inside"]) fun _ _ _ _ _ _ us hl => match us, hl with | [_, _], _ => rfl
 have F44 := fun_mk (st := s_Not_holds) l44 c44 k44
 have b44 := F44.binds (ps := ["self", "values"]) fun _ _ _ _ _ _ us hl => match us, hl with | [_, _], _ => rfl
 have F45 := fun_mk (st := s_Not_parts) l45 c45 k45
 have b45 := F45.binds (ps := ["self"]) fun _ _ _ _ _ _ us hl => match us, hl with | [_], _ => rfl
 have F46 := fun_mk (st := s_Not_cleared) l46 c46 k46
 have b46 := F46.binds (ps := ["self"]) fun _ _ _ _ _ _ us hl => match us, hl with | [_], _ => rfl
 have F47 := fun_mk (st := s_Not_opposite) l47 c47 k47
 have b47 := F47.binds (ps := ["self"]) fun _ _ _ _ _ _ us hl => match us, hl with | [_], _ => rfl
 have F48 := fun_mk (st := s_Not_told) l48 c48 k48
 have b48 := F48.binds (ps := ["self"]) fun _ _ _ _ _ _ us hl => match us, hl with | [_], _ => rfl
 have F49 := fun_mk (st := s_Not_text) l49 c49 k49
 have b49 := F49.binds (ps := ["self"]) fun _ _ _ _ _ _ us hl => match us, hl with | [_], _ => rfl
 have F50 := fun_mk (st := s_Not_names_as_told) l50 c50 k50
 have b50 := F50.binds (ps := ["self"]) fun _ _ _ _ _ _ us hl => match us, hl with | [_], _ => rfl
 have F51 := fun_mk (st := s_Not_names_in) l51 c51 k51
 have b51 := F51.binds (ps := ["self"]) fun _ _ _ _ _ _ us hl => match us, hl with | [_], _ => rfl
 have F52 := fun_mk (st := s_Not_judged) l52 c52 k52
 have b52 := F52.binds (ps := ["self", "kinds"]) fun _ _ _ _ _ _ us hl => match us, hl with | [_, _], _ => rfl
 have F53 := fun_mk (st := s_Not_ties) l53 c53 k53
 have b53 := F53.binds (ps := ["self"]) fun _ _ _ _ _ _ us hl => match us, hl with | [_], _ => rfl
 have F54 := fun_mk (st := s__law_cell) l54 c54 k54
 have b54 := F54.binds (ps := ["_law_script", "_law_k"]) fun _ _ _ _ _ _ us hl => match us, hl with | [_, _], _ => rfl
 have F55 := fun_mk (st := s__law_mix) l55 c55 k55
 have b55 := F55.binds (ps := ["_law_cell_here", "_law_k"]) fun _ _ _ _ _ _ us hl => match us, hl with | [_, _], _ => rfl
 have F56 := fun_mk (st := s__law_numbers) l56 c56 k56
 have b56 := F56.binds (ps := ["_law_cell_here", "_law_many"]) fun _ _ _ _ _ _ us hl => match us, hl with | [_, _], _ => rfl
 have F57 := fun_mk (st := s__law_next) l57 c57 k57
 have b57 := F57.binds (ps := ["_law_numbers_here"]) fun _ _ _ _ _ _ us hl => match us, hl with | [_], _ => rfl
 have F58 := fun_mk (st := s__law_words) l58 c58 k58
 have b58 := F58.binds (ps := ["_law_cell_here", "_law_many"]) fun _ _ _ _ _ _ us hl => match us, hl with | [_, _], _ => rfl
 have F59 := fun_mk (st := s__law_atom) l59 c59 k59
 have b59 := F59.binds (ps := ["_law_numbers_here", "_law_names", "_law_kind"]) fun _ _ _ _ _ _ us hl => match us, hl with | [_, _, _], _ => rfl
 have F60 := fun_mk (st := s__law_compare) l60 c60 k60
 have b60 := F60.binds (ps := ["_law_numbers_here", "_law_names"]) fun _ _ _ _ _ _ us hl => match us, hl with | [_, _], _ => rfl
 have F61 := fun_mk (st := s__law_cond) l61 c61 k61
 have b61 := F61.binds (ps := ["_law_numbers_here", "_law_names", "_law_deep"]) fun _ _ _ _ _ _ us hl => match us, hl with | [_, _, _], _ => rfl
 have F62 := fun_mk (st := s__law_cond_built) l62 c62 k62
 have b62 := F62.binds (ps := ["_law_told"]) fun _ _ _ _ _ _ us hl => match us, hl with | [_], _ => rfl
 have F63 := fun_mk (st := s__law_held) l63 c63 k63
 have b63 := F63.binds (ps := ["_law_told", "_law_values"]) fun _ _ _ _ _ _ us hl => match us, hl with | [_, _], _ => rfl
 have F64 := fun_mk (st := s__law_plain) l64 c64 k64
 have b64 := F64.binds (ps := ["_law_told", "_law_turned_here"]) fun _ _ _ _ _ _ us hl => match us, hl with | [_, _], _ => rfl
 have F65 := fun_mk (st := s__law_compares) l65 c65 k65
 have b65 := F65.binds (ps := ["_law_told"]) fun _ _ _ _ _ _ us hl => match us, hl with | [_], _ => rfl
 have F66 := fun_mk (st := s__law_fault) l66 c66 k66
 have b66 := F66.binds (ps := ["_law_told", "_law_kinds"]) fun _ _ _ _ _ _ us hl => match us, hl with | [_, _], _ => rfl
 have F67 := fun_mk (st := s__law_atom_text) l67 c67 k67
 have b67 := F67.binds (ps := ["_law_atom_here"]) fun _ _ _ _ _ _ us hl => match us, hl with | [_], _ => rfl
 have F68 := fun_mk (st := s__law_cond_text) l68 c68 k68
 have b68 := F68.binds (ps := ["_law_told", "_law_least"]) fun _ _ _ _ _ _ us hl => match us, hl with | [_, _], _ => rfl
 have F69 := fun_mk (st := s__law_columns_here) l69 c69 k69
 have b69 := F69.binds (ps := ["_law_cell_here"]) fun _ _ _ _ _ _ us hl => match us, hl with | [_], _ => rfl
 have F70 := fun_mk (st := s__law_row) l70 c70 k70
 have b70 := F70.binds (ps := ["_law_cell_here", "_law_names"]) fun _ _ _ _ _ _ us hl => match us, hl with | [_, _], _ => rfl
 have F71 := fun_mk (st := s__law_judged) l71 c71 k71
 have b71 := F71.binds (ps := ["_law_cond_here", "_law_kinds"]) fun _ _ _ _ _ _ us hl => match us, hl with | [_, _], _ => rfl
 have F72 := fun_mk (st := s__law_turned) l72 c72 k72
 have b72 := F72.binds (ps := ["_law_kinds", "_law_number"]) fun _ _ _ _ _ _ us hl => match us, hl with | [_, _], _ => rfl
 have F73 := fun_mk (st := s__law_names_within) l73 c73 k73
 have b73 := F73.binds (ps := ["_law_told"]) fun _ _ _ _ _ _ us hl => match us, hl with | [_], _ => rfl
 have F74 := fun_mk (st := s__law_parts_right) l74 c74 k74
 have b74 := F74.binds (ps := ["_law_cond_here", "_law_told"]) fun _ _ _ _ _ _ us hl => match us, hl with | [_, _], _ => rfl
 have F75 := fun_mk (st := s__law_right) l75 c75 k75
 have b75 := F75.binds (ps := ["_law_told", "_law_names", "_law_cell_here"]) fun _ _ _ _ _ _ us hl => match us, hl with | [_, _, _], _ => rfl
 have F76 := fun_mk (st := s_law) l76 c76 k76
 have b76 := F76.binds (ps := ["_law_script"]) fun _ _ _ _ _ _ us hl => match us, hl with | [_], _ => rfl
 let T : Txt w K mg := { C_Compare := C_Compare, c_Compare := PySem.W.mg_of X G aC_Compare, l_Compare := ⟨pg_Compare, hd_Compare, po_Compare, sa_Compare⟩, n_Compare_left := n_Compare_left, n_Compare_sign := n_Compare_sign, n_Compare_right := n_Compare_right, k_Compare := ⟨mk_Compare, a8, i8, kc_Compare⟩, C_And := C_And, c_And := PySem.W.mg_of X G aC_And, l_And := ⟨pg_And, hd_And, po_And, sa_And⟩, n_And_first := n_And_first, n_And_second := n_And_second, k_And := ⟨mk_And, a21, i21, kc_And⟩, C_Or := C_Or, c_Or := PySem.W.mg_of X G aC_Or, l_Or := ⟨pg_Or, hd_Or, po_Or, sa_Or⟩, n_Or_first := n_Or_first, n_Or_second := n_Or_second, k_Or := ⟨mk_Or, a32, i32, kc_Or⟩, C_Not := C_Not, c_Not := PySem.W.mg_of X G aC_Not, l_Not := ⟨pg_Not, hd_Not, po_Not, sa_Not⟩, n_Not_inside := n_Not_inside, k_Not := ⟨mk_Not, a43, i43, kc_Not⟩, D_OPPOSITE := D_OPPOSITE, c_OPPOSITE := PySem.W.mg_of X G nD_OPPOSITE, v_OPPOSITE := ⟨oD_OPPOSITE, eD_OPPOSITE, pD_OPPOSITE, lD_OPPOSITE, xD_OPPOSITE, tD_OPPOSITE, kD_OPPOSITE⟩, C_NoColumn := C_NoColumn, c_NoColumn := PySem.W.mg_of X G aX_NoColumn, C_WrongKind := C_WrongKind, c_WrongKind := PySem.W.mg_of X G aX_WrongKind, C_Cond := C_Cond, c_Cond := PySem.W.mg_of X G aX_Cond, e_cc := e_cc, e_wc := e_wc, e_ww := e_ww, q_Compare := q_Compare, q_And := q_And, q_Or := q_Or, q_Not := q_Not, y_NoColumn := xis_of yB_NoColumn, k_NoColumn := ⟨xI_NoColumn, i0, kB_NoColumn⟩, g_NoColumn_name := xget_of (xis_of yB_NoColumn) aB_NoColumn (.head _), s_NoColumn_name := xset_of aB_NoColumn (.head _), y_WrongKind := xis_of yB_WrongKind, k_WrongKind := ⟨xI_WrongKind, i1, kB_WrongKind⟩, g_WrongKind_name := xget_of (xis_of yB_WrongKind) aB_WrongKind (.head _), s_WrongKind_name := xset_of aB_WrongKind (.head _), i_Compare := i_Compare, j_Compare := j_Compare, h_Compare := h_Compare, m_Compare := m_Compare, i_And := i_And, j_And := j_And, h_And := h_And, m_And := m_And, i_Or := i_Or, j_Or := j_Or, h_Or := h_Or, m_Or := m_Or, i_Not := i_Not, j_Not := j_Not, h_Not := h_Not, m_Not := m_Not, NoColumn___init__ := ⟨_, _, F0, b0, ⟨a0, i0, k0⟩⟩, WrongKind___init__ := ⟨_, _, F1, b1, ⟨a1, i1, k1⟩⟩, is_whole := ⟨_, _, F2, b2, PySem.W.mg_of X G a2⟩, value_text := ⟨_, _, F3, b3, PySem.W.mg_of X G a3⟩, stands := ⟨_, _, F4, b4, PySem.W.mg_of X G a4⟩, kind_of_value := ⟨_, _, F5, b5, PySem.W.mg_of X G a5⟩, atom_text := ⟨_, _, F6, b6, PySem.W.mg_of X G a6⟩, text_within := ⟨_, _, F7, b7, PySem.W.mg_of X G a7⟩, Compare___init__ := ⟨_, _, F8, b8, ⟨a8, i8, k8⟩⟩, Compare_right_value := ⟨_, _, F9, b9, ⟨a9, i9, k9⟩⟩, Compare_holds := ⟨_, _, F10, b10, ⟨a10, i10, k10⟩⟩, Compare_names_as_told := ⟨_, _, F11, b11, ⟨a11, i11, k11⟩⟩, Compare_parts := ⟨_, _, F12, b12, ⟨a12, i12, k12⟩⟩, Compare_right_kind := ⟨_, _, F13, b13, ⟨a13, i13, k13⟩⟩, Compare_judged := ⟨_, _, F14, b14, ⟨a14, i14, k14⟩⟩, Compare_cleared := ⟨_, _, F15, b15, ⟨a15, i15, k15⟩⟩, Compare_opposite := ⟨_, _, F16, b16, ⟨a16, i16, k16⟩⟩, Compare_told := ⟨_, _, F17, b17, ⟨a17, i17, k17⟩⟩, Compare_text := ⟨_, _, F18, b18, ⟨a18, i18, k18⟩⟩, Compare_names_in := ⟨_, _, F19, b19, ⟨a19, i19, k19⟩⟩, Compare_ties := ⟨_, _, F20, b20, ⟨a20, i20, k20⟩⟩, And___init__ := ⟨_, _, F21, b21, ⟨a21, i21, k21⟩⟩, And_holds := ⟨_, _, F22, b22, ⟨a22, i22, k22⟩⟩, And_parts := ⟨_, _, F23, b23, ⟨a23, i23, k23⟩⟩, And_cleared := ⟨_, _, F24, b24, ⟨a24, i24, k24⟩⟩, And_opposite := ⟨_, _, F25, b25, ⟨a25, i25, k25⟩⟩, And_told := ⟨_, _, F26, b26, ⟨a26, i26, k26⟩⟩, And_text := ⟨_, _, F27, b27, ⟨a27, i27, k27⟩⟩, And_ties := ⟨_, _, F28, b28, ⟨a28, i28, k28⟩⟩, And_names_as_told := ⟨_, _, F29, b29, ⟨a29, i29, k29⟩⟩, And_names_in := ⟨_, _, F30, b30, ⟨a30, i30, k30⟩⟩, And_judged := ⟨_, _, F31, b31, ⟨a31, i31, k31⟩⟩, Or___init__ := ⟨_, _, F32, b32, ⟨a32, i32, k32⟩⟩, Or_holds := ⟨_, _, F33, b33, ⟨a33, i33, k33⟩⟩, Or_parts := ⟨_, _, F34, b34, ⟨a34, i34, k34⟩⟩, Or_cleared := ⟨_, _, F35, b35, ⟨a35, i35, k35⟩⟩, Or_opposite := ⟨_, _, F36, b36, ⟨a36, i36, k36⟩⟩, Or_told := ⟨_, _, F37, b37, ⟨a37, i37, k37⟩⟩, Or_text := ⟨_, _, F38, b38, ⟨a38, i38, k38⟩⟩, Or_ties := ⟨_, _, F39, b39, ⟨a39, i39, k39⟩⟩, Or_names_as_told := ⟨_, _, F40, b40, ⟨a40, i40, k40⟩⟩, Or_names_in := ⟨_, _, F41, b41, ⟨a41, i41, k41⟩⟩, Or_judged := ⟨_, _, F42, b42, ⟨a42, i42, k42⟩⟩, Not___init__ := ⟨_, _, F43, b43, ⟨a43, i43, k43⟩⟩, Not_holds := ⟨_, _, F44, b44, ⟨a44, i44, k44⟩⟩, Not_parts := ⟨_, _, F45, b45, ⟨a45, i45, k45⟩⟩, Not_cleared := ⟨_, _, F46, b46, ⟨a46, i46, k46⟩⟩, Not_opposite := ⟨_, _, F47, b47, ⟨a47, i47, k47⟩⟩, Not_told := ⟨_, _, F48, b48, ⟨a48, i48, k48⟩⟩, Not_text := ⟨_, _, F49, b49, ⟨a49, i49, k49⟩⟩, Not_names_as_told := ⟨_, _, F50, b50, ⟨a50, i50, k50⟩⟩, Not_names_in := ⟨_, _, F51, b51, ⟨a51, i51, k51⟩⟩, Not_judged := ⟨_, _, F52, b52, ⟨a52, i52, k52⟩⟩, Not_ties := ⟨_, _, F53, b53, ⟨a53, i53, k53⟩⟩, _law_cell := ⟨_, _, F54, b54, PySem.W.mg_of X G a54⟩, _law_mix := ⟨_, _, F55, b55, PySem.W.mg_of X G a55⟩, _law_numbers := ⟨_, _, F56, b56, PySem.W.mg_of X G a56⟩, _law_next := ⟨_, _, F57, b57, PySem.W.mg_of X G a57⟩, _law_words := ⟨_, _, F58, b58, PySem.W.mg_of X G a58⟩, _law_atom := ⟨_, _, F59, b59, PySem.W.mg_of X G a59⟩, _law_compare := ⟨_, _, F60, b60, PySem.W.mg_of X G a60⟩, _law_cond := ⟨_, _, F61, b61, PySem.W.mg_of X G a61⟩, _law_cond_built := ⟨_, _, F62, b62, PySem.W.mg_of X G a62⟩, _law_held := ⟨_, _, F63, b63, PySem.W.mg_of X G a63⟩, _law_plain := ⟨_, _, F64, b64, PySem.W.mg_of X G a64⟩, _law_compares := ⟨_, _, F65, b65, PySem.W.mg_of X G a65⟩, _law_fault := ⟨_, _, F66, b66, PySem.W.mg_of X G a66⟩, _law_atom_text := ⟨_, _, F67, b67, PySem.W.mg_of X G a67⟩, _law_cond_text := ⟨_, _, F68, b68, PySem.W.mg_of X G a68⟩, _law_columns_here := ⟨_, _, F69, b69, PySem.W.mg_of X G a69⟩, _law_row := ⟨_, _, F70, b70, PySem.W.mg_of X G a70⟩, _law_judged := ⟨_, _, F71, b71, PySem.W.mg_of X G a71⟩, _law_turned := ⟨_, _, F72, b72, PySem.W.mg_of X G a72⟩, _law_names_within := ⟨_, _, F73, b73, PySem.W.mg_of X G a73⟩, _law_parts_right := ⟨_, _, F74, b74, PySem.W.mg_of X G a74⟩, _law_right := ⟨_, _, F75, b75, PySem.W.mg_of X G a75⟩, law := ⟨_, _, F76, b76, PySem.W.mg_of X G a76⟩, b_bool := PySem.W.mg_none_of X G z_bool, b_dict := PySem.W.mg_none_of X G z_dict, b_int := PySem.W.mg_none_of X G z_int, b_isinstance := PySem.W.mg_none_of X G z_isinstance, b_len := PySem.W.mg_none_of X G z_len, b_max := PySem.W.mg_none_of X G z_max, b_min := PySem.W.mg_none_of X G z_min, b_range := PySem.W.mg_none_of X G z_range, b_set := PySem.W.mg_none_of X G z_set, b_sorted := PySem.W.mg_none_of X G z_sorted, b_str := PySem.W.mg_none_of X G z_str, u_ALONE_TIES := _, c_ALONE_TIES := PySem.W.mg_of X G g_ALONE_TIES, r_ALONE_TIES := ⟨_, rfl⟩, u_AND_TIES := _, c_AND_TIES := PySem.W.mg_of X G g_AND_TIES, r_AND_TIES := ⟨_, rfl⟩, u_OR_TIES := _, c_OR_TIES := PySem.W.mg_of X G g_OR_TIES, r_OR_TIES := ⟨_, rfl⟩ }
 exact ⟨_, fun s v => .of_eq rfl, fun base _ _ => ok_law T⟩
theorem walk {l : PySem.W.OpenLaw} {q : Program} {loose : List Str} {XP : (Str → Option Value) → Heap → Prop} {YP : World → Heap → Prop} {d : DefRec} {K : Params → PySem.W.Frag} (hn : l.most = some 63) (hdf : d.params.defaults = [])
  (hY : ∀ (w : World) (h : Heap), YP w h → (K w.params).In h)
  (F : ∀ (w : World) (mg : Str → Option Value) (fa : Addr) (h : Heap), (K w.params).In h → h.Ns mainGlobals mg → mg d.name = some (.ref fa) →
   ∃ fd : FuncData, (∀ (s : Shared) (u : Value), BindsTo s fd ⟨[u], []⟩ [("_law_script", u)]) ∧ ∀ base : Heap, (K w.params).In base → base.Ns mainGlobals mg → FnOk l.prog w (K w.params) mg base CX0 15 fa fd ["_law_script"] (sp_law (K w.params))) :
  PySem.W.WalkO q loose XP YP l.row.toRowW d [] (fun f vs => PySem.call f vs) :=
 L2.walk_of (n := 63) (k := 15) (x := "_law_script") (CX := fun _ => CX0) (sp := fun w => sp_law (K w.params)) hn (by decide) hdf ⟨rfl, by decide, by decide, rfl⟩ hY F (fun _ _ a ns hl _ hS => ⟨a, ns, rfl, hS, hl, fun _ => rfl⟩) fun _ _ _ _ _ z => z
end K34
open PySem PySem.W PyProof.Rows
set_option maxRecDepth 100000 in
set_option maxHeartbeats 0 in
theorem PySem.Challenge.cw_planstore_k34_conditions_walked_holds : PySem.Challenge.rw_planstore_k34_conditions_walked.Holds := by
 w_on; o_law; k_head; (case hw => w_witness2)
 k_fill
 refine K34.walk (l := PySem.Challenge.rw_planstore_k34_conditions_walked) rfl rfl (fun w h Y => PySem.W.kIn_of Y) ?F
 case F =>
  intro w mg fa h KX G hmg
  refine' K34.all_mk KX G hmg ?aC_Compare ?pg_Compare ?hd_Compare ?po_Compare ?sa_Compare ?mk_Compare ?kc_Compare ?n_Compare_left ?n_Compare_sign ?n_Compare_right ?aC_And ?pg_And ?hd_And ?po_And ?sa_And ?mk_And ?kc_And ?n_And_first ?n_And_second ?aC_Or ?pg_Or ?hd_Or ?po_Or ?sa_Or ?mk_Or ?kc_Or ?n_Or_first ?n_Or_second ?aC_Not ?pg_Not ?hd_Not ?po_Not ?sa_Not ?mk_Not ?kc_Not ?n_Not_inside ?i_Compare ?j_Compare ?h_Compare ?m_Compare ?i_And ?j_And ?h_And ?m_And ?i_Or ?j_Or ?h_Or ?m_Or ?i_Not ?j_Not ?h_Not ?m_Not ?aX_NoColumn ?aX_WrongKind ?aX_Cond ?e_cc ?e_wc ?e_ww ?q_Compare ?q_And ?q_Or ?q_Not ?yB_NoColumn ?xI_NoColumn ?kB_NoColumn ?aB_NoColumn ?yB_WrongKind ?xI_WrongKind ?kB_WrongKind ?aB_WrongKind ?a0 ?i0 ?l0 ?c0 ?k0 ?a1 ?i1 ?l1 ?c1 ?k1 ?a2 ?l2 ?c2 ?k2 ?a3 ?l3 ?c3 ?k3 ?a4 ?l4 ?c4 ?k4 ?a5 ?l5 ?c5 ?k5 ?a6 ?l6 ?c6 ?k6 ?a7 ?l7 ?c7 ?k7 ?a8 ?i8 ?l8 ?c8 ?k8 ?a9 ?i9 ?l9 ?c9 ?k9 ?a10 ?i10 ?l10 ?c10 ?k10 ?a11 ?i11 ?l11 ?c11 ?k11 ?a12 ?i12 ?l12 ?c12 ?k12 ?a13 ?i13 ?l13 ?c13 ?k13 ?a14 ?i14 ?l14 ?c14 ?k14 ?a15 ?i15 ?l15 ?c15 ?k15 ?a16 ?i16 ?l16 ?c16 ?k16 ?a17 ?i17 ?l17 ?c17 ?k17 ?a18 ?i18 ?l18 ?c18 ?k18 ?a19 ?i19 ?l19 ?c19 ?k19 ?a20 ?i20 ?l20 ?c20 ?k20 ?a21 ?i21 ?l21 ?c21 ?k21 ?a22 ?i22 ?l22 ?c22 ?k22 ?a23 ?i23 ?l23 ?c23 ?k23 ?a24 ?i24 ?l24 ?c24 ?k24 ?a25 ?i25 ?l25 ?c25 ?k25 ?a26 ?i26 ?l26 ?c26 ?k26 ?a27 ?i27 ?l27 ?c27 ?k27 ?a28 ?i28 ?l28 ?c28 ?k28 ?a29 ?i29 ?l29 ?c29 ?k29 ?a30 ?i30 ?l30 ?c30 ?k30 ?a31 ?i31 ?l31 ?c31 ?k31 ?a32 ?i32 ?l32 ?c32 ?k32 ?a33 ?i33 ?l33 ?c33 ?k33 ?a34 ?i34 ?l34 ?c34 ?k34 ?a35 ?i35 ?l35 ?c35 ?k35 ?a36 ?i36 ?l36 ?c36 ?k36 ?a37 ?i37 ?l37 ?c37 ?k37 ?a38 ?i38 ?l38 ?c38 ?k38 ?a39 ?i39 ?l39 ?c39 ?k39 ?a40 ?i40 ?l40 ?c40 ?k40 ?a41 ?i41 ?l41 ?c41 ?k41 ?a42 ?i42 ?l42 ?c42 ?k42 ?a43 ?i43 ?l43 ?c43 ?k43 ?a44 ?i44 ?l44 ?c44 ?k44 ?a45 ?i45 ?l45 ?c45 ?k45 ?a46 ?i46 ?l46 ?c46 ?k46 ?a47 ?i47 ?l47 ?c47 ?k47 ?a48 ?i48 ?l48 ?c48 ?k48 ?a49 ?i49 ?l49 ?c49 ?k49 ?a50 ?i50 ?l50 ?c50 ?k50 ?a51 ?i51 ?l51 ?c51 ?k51 ?a52 ?i52 ?l52 ?c52 ?k52 ?a53 ?i53 ?l53 ?c53 ?k53 ?a54 ?l54 ?c54 ?k54 ?a55 ?l55 ?c55 ?k55 ?a56 ?l56 ?c56 ?k56 ?a57 ?l57 ?c57 ?k57 ?a58 ?l58 ?c58 ?k58 ?a59 ?l59 ?c59 ?k59 ?a60 ?l60 ?c60 ?k60 ?a61 ?l61 ?c61 ?k61 ?a62 ?l62 ?c62 ?k62 ?a63 ?l63 ?c63 ?k63 ?a64 ?l64 ?c64 ?k64 ?a65 ?l65 ?c65 ?k65 ?a66 ?l66 ?c66 ?k66 ?a67 ?l67 ?c67 ?k67 ?a68 ?l68 ?c68 ?k68 ?a69 ?l69 ?c69 ?k69 ?a70 ?l70 ?c70 ?k70 ?a71 ?l71 ?c71 ?k71 ?a72 ?l72 ?c72 ?k72 ?a73 ?l73 ?c73 ?k73 ?a74 ?l74 ?c74 ?k74 ?a75 ?l75 ?c75 ?k75 ?a76 ?l76 ?c76 ?k76 ?z_bool ?z_dict ?z_int ?z_isinstance ?z_len ?z_max ?z_min ?z_range ?z_set ?z_sorted ?z_str ?g_ALONE_TIES ?g_AND_TIES ?g_OR_TIES ?nD_OPPOSITE ?lD_OPPOSITE ?xD_OPPOSITE ?tD_OPPOSITE ?kD_OPPOSITE
  (case aC_Compare => k_is)
  (case pg_Compare => k_is)
  (case hd_Compare => k_is)
  (case po_Compare => k_is)
  (case sa_Compare => k_is)
  (case mk_Compare => k_is)
  (case kc_Compare => k_is)
  (case n_Compare_left => k_is)
  (case n_Compare_sign => k_is)
  (case n_Compare_right => k_is)
  (case aC_And => k_is)
  (case pg_And => k_is)
  (case hd_And => k_is)
  (case po_And => k_is)
  (case sa_And => k_is)
  (case mk_And => k_is)
  (case kc_And => k_is)
  (case n_And_first => k_is)
  (case n_And_second => k_is)
  (case aC_Or => k_is)
  (case pg_Or => k_is)
  (case hd_Or => k_is)
  (case po_Or => k_is)
  (case sa_Or => k_is)
  (case mk_Or => k_is)
  (case kc_Or => k_is)
  (case n_Or_first => k_is)
  (case n_Or_second => k_is)
  (case aC_Not => k_is)
  (case pg_Not => k_is)
  (case hd_Not => k_is)
  (case po_Not => k_is)
  (case sa_Not => k_is)
  (case mk_Not => k_is)
  (case kc_Not => k_is)
  (case n_Not_inside => k_is)
  (case i_Compare => k_is)
  (case j_Compare => k_is)
  (case h_Compare => k_is)
  (case m_Compare => k_is)
  (case i_And => k_is)
  (case j_And => k_is)
  (case h_And => k_is)
  (case m_And => k_is)
  (case i_Or => k_is)
  (case j_Or => k_is)
  (case h_Or => k_is)
  (case m_Or => k_is)
  (case i_Not => k_is)
  (case j_Not => k_is)
  (case h_Not => k_is)
  (case m_Not => k_is)
  (case aX_NoColumn => k_is)
  (case aX_WrongKind => k_is)
  (case aX_Cond => k_is)
  (case e_cc => kts_exm)
  (case e_wc => kts_exm)
  (case e_ww => kts_exm)
  (case q_Compare => kit_is)
  (case q_And => kit_is)
  (case q_Or => kit_is)
  (case q_Not => kit_is)
  (case yB_NoColumn => kernel_rfl)
  (case xI_NoColumn => kernel_rfl)
  (case kB_NoColumn => k_is)
  (case aB_NoColumn => kernel_rfl)
  (case yB_WrongKind => kernel_rfl)
  (case xI_WrongKind => kernel_rfl)
  (case kB_WrongKind => k_is)
  (case aB_WrongKind => kernel_rfl)
  (case a0 => k_is)
  (case i0 => k_is)
  (case l0 => k_is)
  (case c0 => k_is)
  (case k0 => k_is)
  (case a1 => k_is)
  (case i1 => k_is)
  (case l1 => k_is)
  (case c1 => k_is)
  (case k1 => k_is)
  (case a2 => k_is)
  (case l2 => k_is)
  (case c2 => k_is)
  (case k2 => k_is)
  (case a3 => k_is)
  (case l3 => k_is)
  (case c3 => k_is)
  (case k3 => k_is)
  (case a4 => k_is)
  (case l4 => k_is)
  (case c4 => k_is)
  (case k4 => k_is)
  (case a5 => k_is)
  (case l5 => k_is)
  (case c5 => k_is)
  (case k5 => k_is)
  (case a6 => k_is)
  (case l6 => k_is)
  (case c6 => k_is)
  (case k6 => k_is)
  (case a7 => k_is)
  (case l7 => k_is)
  (case c7 => k_is)
  (case k7 => k_is)
  (case a8 => k_is)
  (case i8 => k_is)
  (case l8 => k_is)
  (case c8 => k_is)
  (case k8 => k_is)
  (case a9 => k_is)
  (case i9 => k_is)
  (case l9 => k_is)
  (case c9 => k_is)
  (case k9 => k_is)
  (case a10 => k_is)
  (case i10 => k_is)
  (case l10 => k_is)
  (case c10 => k_is)
  (case k10 => k_is)
  (case a11 => k_is)
  (case i11 => k_is)
  (case l11 => k_is)
  (case c11 => k_is)
  (case k11 => k_is)
  (case a12 => k_is)
  (case i12 => k_is)
  (case l12 => k_is)
  (case c12 => k_is)
  (case k12 => k_is)
  (case a13 => k_is)
  (case i13 => k_is)
  (case l13 => k_is)
  (case c13 => k_is)
  (case k13 => k_is)
  (case a14 => k_is)
  (case i14 => k_is)
  (case l14 => k_is)
  (case c14 => k_is)
  (case k14 => k_is)
  (case a15 => k_is)
  (case i15 => k_is)
  (case l15 => k_is)
  (case c15 => k_is)
  (case k15 => k_is)
  (case a16 => k_is)
  (case i16 => k_is)
  (case l16 => k_is)
  (case c16 => k_is)
  (case k16 => k_is)
  (case a17 => k_is)
  (case i17 => k_is)
  (case l17 => k_is)
  (case c17 => k_is)
  (case k17 => k_is)
  (case a18 => k_is)
  (case i18 => k_is)
  (case l18 => k_is)
  (case c18 => k_is)
  (case k18 => k_is)
  (case a19 => k_is)
  (case i19 => k_is)
  (case l19 => k_is)
  (case c19 => k_is)
  (case k19 => k_is)
  (case a20 => k_is)
  (case i20 => k_is)
  (case l20 => k_is)
  (case c20 => k_is)
  (case k20 => k_is)
  (case a21 => k_is)
  (case i21 => k_is)
  (case l21 => k_is)
  (case c21 => k_is)
  (case k21 => k_is)
  (case a22 => k_is)
  (case i22 => k_is)
  (case l22 => k_is)
  (case c22 => k_is)
  (case k22 => k_is)
  (case a23 => k_is)
  (case i23 => k_is)
  (case l23 => k_is)
  (case c23 => k_is)
  (case k23 => k_is)
  (case a24 => k_is)
  (case i24 => k_is)
  (case l24 => k_is)
  (case c24 => k_is)
  (case k24 => k_is)
  (case a25 => k_is)
  (case i25 => k_is)
  (case l25 => k_is)
  (case c25 => k_is)
  (case k25 => k_is)
  (case a26 => k_is)
  (case i26 => k_is)
  (case l26 => k_is)
  (case c26 => k_is)
  (case k26 => k_is)
  (case a27 => k_is)
  (case i27 => k_is)
  (case l27 => k_is)
  (case c27 => k_is)
  (case k27 => k_is)
  (case a28 => k_is)
  (case i28 => k_is)
  (case l28 => k_is)
  (case c28 => k_is)
  (case k28 => k_is)
  (case a29 => k_is)
  (case i29 => k_is)
  (case l29 => k_is)
  (case c29 => k_is)
  (case k29 => k_is)
  (case a30 => k_is)
  (case i30 => k_is)
  (case l30 => k_is)
  (case c30 => k_is)
  (case k30 => k_is)
  (case a31 => k_is)
  (case i31 => k_is)
  (case l31 => k_is)
  (case c31 => k_is)
  (case k31 => k_is)
  (case a32 => k_is)
  (case i32 => k_is)
  (case l32 => k_is)
  (case c32 => k_is)
  (case k32 => k_is)
  (case a33 => k_is)
  (case i33 => k_is)
  (case l33 => k_is)
  (case c33 => k_is)
  (case k33 => k_is)
  (case a34 => k_is)
  (case i34 => k_is)
  (case l34 => k_is)
  (case c34 => k_is)
  (case k34 => k_is)
  (case a35 => k_is)
  (case i35 => k_is)
  (case l35 => k_is)
  (case c35 => k_is)
  (case k35 => k_is)
  (case a36 => k_is)
  (case i36 => k_is)
  (case l36 => k_is)
  (case c36 => k_is)
  (case k36 => k_is)
  (case a37 => k_is)
  (case i37 => k_is)
  (case l37 => k_is)
  (case c37 => k_is)
  (case k37 => k_is)
  (case a38 => k_is)
  (case i38 => k_is)
  (case l38 => k_is)
  (case c38 => k_is)
  (case k38 => k_is)
  (case a39 => k_is)
  (case i39 => k_is)
  (case l39 => k_is)
  (case c39 => k_is)
  (case k39 => k_is)
  (case a40 => k_is)
  (case i40 => k_is)
  (case l40 => k_is)
  (case c40 => k_is)
  (case k40 => k_is)
  (case a41 => k_is)
  (case i41 => k_is)
  (case l41 => k_is)
  (case c41 => k_is)
  (case k41 => k_is)
  (case a42 => k_is)
  (case i42 => k_is)
  (case l42 => k_is)
  (case c42 => k_is)
  (case k42 => k_is)
  (case a43 => k_is)
  (case i43 => k_is)
  (case l43 => k_is)
  (case c43 => k_is)
  (case k43 => k_is)
  (case a44 => k_is)
  (case i44 => k_is)
  (case l44 => k_is)
  (case c44 => k_is)
  (case k44 => k_is)
  (case a45 => k_is)
  (case i45 => k_is)
  (case l45 => k_is)
  (case c45 => k_is)
  (case k45 => k_is)
  (case a46 => k_is)
  (case i46 => k_is)
  (case l46 => k_is)
  (case c46 => k_is)
  (case k46 => k_is)
  (case a47 => k_is)
  (case i47 => k_is)
  (case l47 => k_is)
  (case c47 => k_is)
  (case k47 => k_is)
  (case a48 => k_is)
  (case i48 => k_is)
  (case l48 => k_is)
  (case c48 => k_is)
  (case k48 => k_is)
  (case a49 => k_is)
  (case i49 => k_is)
  (case l49 => k_is)
  (case c49 => k_is)
  (case k49 => k_is)
  (case a50 => k_is)
  (case i50 => k_is)
  (case l50 => k_is)
  (case c50 => k_is)
  (case k50 => k_is)
  (case a51 => k_is)
  (case i51 => k_is)
  (case l51 => k_is)
  (case c51 => k_is)
  (case k51 => k_is)
  (case a52 => k_is)
  (case i52 => k_is)
  (case l52 => k_is)
  (case c52 => k_is)
  (case k52 => k_is)
  (case a53 => k_is)
  (case i53 => k_is)
  (case l53 => k_is)
  (case c53 => k_is)
  (case k53 => k_is)
  (case a54 => k_is)
  (case l54 => k_is)
  (case c54 => k_is)
  (case k54 => k_is)
  (case a55 => k_is)
  (case l55 => k_is)
  (case c55 => k_is)
  (case k55 => k_is)
  (case a56 => k_is)
  (case l56 => k_is)
  (case c56 => k_is)
  (case k56 => k_is)
  (case a57 => k_is)
  (case l57 => k_is)
  (case c57 => k_is)
  (case k57 => k_is)
  (case a58 => k_is)
  (case l58 => k_is)
  (case c58 => k_is)
  (case k58 => k_is)
  (case a59 => k_is)
  (case l59 => k_is)
  (case c59 => k_is)
  (case k59 => k_is)
  (case a60 => k_is)
  (case l60 => k_is)
  (case c60 => k_is)
  (case k60 => k_is)
  (case a61 => k_is)
  (case l61 => k_is)
  (case c61 => k_is)
  (case k61 => k_is)
  (case a62 => k_is)
  (case l62 => k_is)
  (case c62 => k_is)
  (case k62 => k_is)
  (case a63 => k_is)
  (case l63 => k_is)
  (case c63 => k_is)
  (case k63 => k_is)
  (case a64 => k_is)
  (case l64 => k_is)
  (case c64 => k_is)
  (case k64 => k_is)
  (case a65 => k_is)
  (case l65 => k_is)
  (case c65 => k_is)
  (case k65 => k_is)
  (case a66 => k_is)
  (case l66 => k_is)
  (case c66 => k_is)
  (case k66 => k_is)
  (case a67 => k_is)
  (case l67 => k_is)
  (case c67 => k_is)
  (case k67 => k_is)
  (case a68 => k_is)
  (case l68 => k_is)
  (case c68 => k_is)
  (case k68 => k_is)
  (case a69 => k_is)
  (case l69 => k_is)
  (case c69 => k_is)
  (case k69 => k_is)
  (case a70 => k_is)
  (case l70 => k_is)
  (case c70 => k_is)
  (case k70 => k_is)
  (case a71 => k_is)
  (case l71 => k_is)
  (case c71 => k_is)
  (case k71 => k_is)
  (case a72 => k_is)
  (case l72 => k_is)
  (case c72 => k_is)
  (case k72 => k_is)
  (case a73 => k_is)
  (case l73 => k_is)
  (case c73 => k_is)
  (case k73 => k_is)
  (case a74 => k_is)
  (case l74 => k_is)
  (case c74 => k_is)
  (case k74 => k_is)
  (case a75 => k_is)
  (case l75 => k_is)
  (case c75 => k_is)
  (case k75 => k_is)
  (case a76 => k_is)
  (case l76 => k_is)
  (case c76 => k_is)
  (case k76 => k_is)
  (case z_bool => k_is)
  (case z_dict => k_is)
  (case z_int => k_is)
  (case z_isinstance => k_is)
  (case z_len => k_is)
  (case z_max => k_is)
  (case z_min => k_is)
  (case z_range => k_is)
  (case z_set => k_is)
  (case z_sorted => k_is)
  (case z_str => k_is)
  (case g_ALONE_TIES => k_is)
  (case g_AND_TIES => k_is)
  (case g_OR_TIES => k_is)
  (case nD_OPPOSITE => k_is)
  (case lD_OPPOSITE => (first | k_is | exact rfl))
  (case xD_OPPOSITE => exact ⟨rfl, rfl, rfl⟩)
  (case tD_OPPOSITE => (first | exact rfl | decide))
  (case kD_OPPOSITE => (first | exact rfl | decide))
#print axioms PySem.Challenge.cw_planstore_k34_conditions_walked_holds
