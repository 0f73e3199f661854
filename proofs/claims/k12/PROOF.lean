import PyProof.Rows.All
import Wide.All
import OpenK.AllK
import Wide.FinOn
import HandS.ForMost
import HandS.Zip
import HandS.Gcd
import HandS.Wide
import HandS.IsInst
import HandS.TupAny
import HandS.Style
import HandS.Evl
import HandS.Exc
import HandS.ExcInit
import HandS.ExcOwn
import HandS.TryOnly
import HandS.TryMany
import HandS.WordsExc
import KE.GoesEnum
import KE.GoesMore
import HandS.TupMul
import HandS.ExcField
import HandS.OwnEq
import HandS.Zip0
import KE.KDictZip
import HandS.WrittenGet
import KE.DataMinMax
import HandS.Star
import HandS.Conv
import HandS.RaiseMore
import PyProof.TupleOfSeq
import PyProof.Rows.SortWalk
import PySem.Challenge.RW_unitgrids_k12_scripts_refused
set_option Elab.async false
set_option linter.all false
set_option maxRecDepth 100000
set_option maxHeartbeats 4000000
namespace PD
open PySem PySem.Spec PyProof.Rows L2
/-- plain data: what a value says, whatever its addresses are; st: the one list that a law draws from -/
inductive D where
  | non | bl (b : Bool) | int (i : Int) | str (x : Str) | ty (n : String)
  | tup (xs : List D) | lst (xs : List D) | st | obj (a : Addr)
  /-- a dict, whatever is in it; an instance of the class at C: its fields' names and what they hold -/
  | dct | ins (C : Addr) (ns : List Str) (ds : List D)
  /-- a caught exception: its own dict's place, names and data -/
  | exc (a dx : Addr) (ns : List Str) (ds : List D)
  /-- an exception held as a value: its class, its fields' names and data -/
  | xob (C : Addr) (ns : List Str) (ds : List D)
  /-- a dict by its keys, ints and texts, in order, and what they lead to -/
  | dic (ks : List Key) (ds : List D)
abbrev DS := List (Option D)
structure Wd where
  K : PySem.W.Frag
  s : Option Addr
  b : Addr
mutual
inductive Rep (W : Wd) (M : Addr → Prop) (H : Hp) : V → D → Prop
  | non : Rep W M H .non .non
  | bl (b : Bool) : Rep W M H (.bl b) (.bl b)
  | int (i : Int) : Rep W M H (.int i) (.int i)
  | str (x : Str) : Rep W M H (.str x) (.str x)
  | ty (n : String) : Rep W M H (.ty n) (.ty n)
  | tup {a : Addr} {vs : List V} {ds : List D} : SqT W.K H a vs → Reps W M H vs ds → Rep W M H (.ref a) (.tup ds)
  | lst {a : Addr} {vs : List V} {ds : List D} : ¬ M a → H a = some (.lst vs) → Reps W M H vs ds → Rep W M H (.ref a) (.lst ds)
  | st {a : Addr} : W.s = some a → Rep W M H (.ref a) .st
  | obj (a : Addr) : Rep W M H (.ref a) (.obj a)
  | dct {a : Addr} {kvs : List (Key × V)} : ¬ M a → H a = some (.dK kvs) → Rep W M H (.ref a) .dct
  | ins {a C dx : Addr} {fs : List (Str × V)} {ns : List Str} {ds : List D} : ¬ M a → H a = some (.ins C dx fs) → fs.map (·.1) = ns → Reps W M H (fs.map (·.2)) ds → Rep W M H (.ref a) (.ins C ns ds)
  | exc {a dx : Addr} {fs : List (Str × V)} {ns : List Str} {ds : List D} : ¬ M dx → H dx = some (.xd fs) → fs.map (·.1) = ns → Reps W M H (fs.map (·.2)) ds → Rep W M H (.ref a) (.exc a dx ns ds)
  | xob0 {a C : Addr} : ¬ M a → H a = some (exo a C none) → Rep W M H (.ref a) (.xob C [] [])
  | xob {a C dx : Addr} {fs : List (Str × V)} {ns : List Str} {ds : List D} : ¬ M a → H a = some (exo a C (some dx)) → ¬ M dx → H dx = some (exd dx fs) → fs.map (·.1) = ns → Reps W M H (fs.map (·.2)) ds → Rep W M H (.ref a) (.xob C ns ds)
  | dic {a : Addr} {kvs : List (Key × V)} {ks : List Key} {ds : List D} : ¬ M a → H a = some (.dK kvs) → kvs.map (·.1) = ks → Reps W M H (kvs.map (·.2)) ds → Rep W M H (.ref a) (.dic ks ds)
inductive Reps (W : Wd) (M : Addr → Prop) (H : Hp) : List V → List D → Prop
  | nil : Reps W M H [] []
  | cons {v : V} {vs : List V} {d : D} {ds : List D} : Rep W M H v d → Reps W M H vs ds → Reps W M H (v :: vs) (d :: ds)
end
theorem Reps.length {W : Wd} {M : Addr → Prop} {H : Hp} : ∀ {vs : List V} {ds : List D}, Reps W M H vs ds → vs.length = ds.length
  | _, _, .nil => rfl
  | _, _, .cons _ t => by
    show _ + 1 = _ + 1
    rw [t.length]
theorem Reps.get {W : Wd} {M : Addr → Prop} {H : Hp} : ∀ {vs : List V} {ds : List D} {i : Nat} {d : D}, Reps W M H vs ds → ds[i]? = some d → ∃ v, vs[i]? = some v ∧ Rep W M H v d
  | _, _, _, _, .nil, e => by simp at e
  | _, _, 0, _, .cons r _, e => by
    simp at e
    subst e
    exact ⟨_, rfl, r⟩
  | _, _, i + 1, d, .cons _ t, e => by
    obtain ⟨v, h1, h2⟩ := Reps.get (i := i) (d := d) t (by simpa using e)
    exact ⟨v, by simpa using h1, h2⟩
theorem Reps.got {W : Wd} {M : Addr → Prop} {H : Hp} : ∀ {vs : List V} {ds : List D} {i : Nat} {v : V}, Reps W M H vs ds → vs[i]? = some v → ∃ d, ds[i]? = some d ∧ Rep W M H v d
  | _, _, _, _, .nil, e => by simp at e
  | _, _, 0, _, .cons r _, e => by
    simp at e
    subst e
    exact ⟨_, rfl, r⟩
  | _, _, i + 1, v, .cons _ t, e => by
    obtain ⟨d, h1, h2⟩ := Reps.got (i := i) (v := v) t (by simpa using e)
    exact ⟨d, by simpa using h1, h2⟩
theorem Reps.append {W : Wd} {M : Addr → Prop} {H : Hp} : ∀ {vs us : List V} {ds es : List D}, Reps W M H vs ds → Reps W M H us es → Reps W M H (vs ++ us) (ds ++ es)
  | _, _, _, _, .nil, s => s
  | _, _, _, _, .cons r t, s => .cons r (t.append s)
/-- the list that a law draws from: [the script, the place, what is left, the mix] -/
def StAt (b : Addr) (H : Hp) (s : Addr) : Prop := ∃ (ns : List Int) (i c m : Int), H s = some (.lst [.ref b, .int i, .int c, .int m]) ∧ b ≠ s ∧ H b = some (.lst (ns.map V.int)) ∧ 0 ≤ i ∧ i ≤ 100 ∧ ns.length ≤ 63 ∧ 0 ≤ c ∧ 0 ≤ m ∧ m < 2147483647
def StOk (W : Wd) (H : Hp) : Prop := ∀ s, W.s = some s → StAt W.b H s
def Keep (W : Wd) (H H' : Hp) : Prop := ∀ a o, W.s ≠ some a → H a = some o → H' a = some o
structure Wf (W : Wd) (M : Addr → Prop) (H : Hp) : Prop where
  g : StOk W H
  sm : ∀ a, W.s = some a → M a
  dom : ∀ a, M a → ∃ o, H a = some o
structure Wg (W : Wd) (M : Addr → Prop) (H : Hp) : Prop where
  g : StOk W H
  sm : ∀ a, W.s = some a → M a
theorem Wf.wg {W : Wd} {M : Addr → Prop} {H : Hp} (w : Wf W M H) : Wg W M H := ⟨w.g, w.sm⟩
theorem Keep.refl {W : Wd} (H : Hp) : Keep W H H := fun _ _ _ h => h
theorem Keep.trans {W : Wd} {H H1 H2 : Hp} (a : Keep W H H1) (b : Keep W H1 H2) : Keep W H H2 := fun x o n h => b x o n (a x o n h)
theorem Keep.new {W : Wd} {H : Hp} {p : Addr} {o : HO} (h : H p = none) : Keep W H (upd H p o) := fun a u _ e => by
  rw [upd_ne (ne_of_none e h)]
  exact e
theorem StAt.new {b : Addr} {H : Hp} {s p : Addr} {o : HO} (h : H p = none) (g : StAt b H s) : StAt b (upd H p o) s := by
  obtain ⟨ns, i, c, m, h1, h2, h3, r⟩ := g
  exact ⟨ns, i, c, m, by rw [upd_ne (ne_of_none h1 h)]; exact h1, h2, by rw [upd_ne (ne_of_none h3 h)]; exact h3, r⟩
theorem StOk.new {W : Wd} {H : Hp} {p : Addr} {o : HO} (h : H p = none) (g : StOk W H) : StOk W (upd H p o) := fun s e => (g s e).new h
section
variable {W : Wd} {M M' : Addr → Prop} {H H' : Hp}
theorem Wf.next (w : Wf W M H) (g : StOk W H') (k : Keep W H H') : Wf W M H' := ⟨g, w.sm, fun a ha => by
  by_cases e : W.s = some a
  · obtain ⟨ns, i, c, m, h, _⟩ := g a e
    exact ⟨_, h⟩
  · obtain ⟨o, ho⟩ := w.dom a ha
    exact ⟨o, k a o e ho⟩⟩
theorem sqT_keep (w : Wg W M H) (k : Keep W H H') {a : Addr} {vs : List V} (h : SqT W.K H a vs) : SqT W.K H' a vs := by
  rcases h with (h | ⟨o, h⟩) | h
  · refine .inl (.inl (k a _ (fun e => ?_) h))
    obtain ⟨ns, i, c, m, q, _⟩ := w.g a e
    rw [q] at h
    cases h
  · refine .inl (.inr ⟨o, k a _ (fun e => ?_) h⟩)
    obtain ⟨ns, i, c, m, q, _⟩ := w.g a e
    rw [q] at h
    cases h
  · exact .inr h
theorem rdL_keep (w : Wg W M H) (k : Keep W H H') {a : Addr} {vs : List V} (n : ¬ M a) (h : H a = some (.lst vs)) : H' a = some (.lst vs) := k a _ (fun e => n (w.sm a e)) h
mutual
theorem Rep.keepG (w : Wg W M H) (k : Keep W H H') : ∀ {v : V} {d : D}, Rep W M H v d → Rep W M H' v d
  | _, _, .non => .non
  | _, _, .bl b => .bl b
  | _, _, .int i => .int i
  | _, _, .str x => .str x
  | _, _, .ty n => .ty n
  | _, _, .tup h r => .tup (sqT_keep w k h) (r.keepG w k)
  | _, _, .lst n h r => .lst n (rdL_keep w k n h) (r.keepG w k)
  | _, _, .st e => .st e
  | _, _, .obj a => .obj a
  | _, _, .dct n h => .dct n (k _ _ (fun e => n (w.sm _ e)) h)
  | _, _, .ins n h e r => .ins n (k _ _ (fun e => n (w.sm _ e)) h) e (r.keepG w k)
  | _, _, .exc n h e r => .exc n (k _ _ (fun e => n (w.sm _ e)) h) e (r.keepG w k)
  | _, _, .xob0 n h => .xob0 n (k _ _ (fun e => n (w.sm _ e)) h)
  | _, _, .xob n h n2 h2 e r => .xob n (k _ _ (fun e => n (w.sm _ e)) h) n2 (k _ _ (fun e => n2 (w.sm _ e)) h2) e (r.keepG w k)
  | _, _, .dic n h e r => .dic n (k _ _ (fun e => n (w.sm _ e)) h) e (r.keepG w k)
theorem Reps.keepG (w : Wg W M H) (k : Keep W H H') : ∀ {vs : List V} {ds : List D}, Reps W M H vs ds → Reps W M H' vs ds
  | _, _, .nil => .nil
  | _, _, .cons r t => .cons (r.keepG w k) (t.keepG w k)
end
theorem Rep.keep (w : Wf W M H) (k : Keep W H H') {v : V} {d : D} (r : Rep W M H v d) : Rep W M H' v d := r.keepG w.wg k
theorem Reps.keep (w : Wf W M H) (k : Keep W H H') {vs : List V} {ds : List D} (r : Reps W M H vs ds) : Reps W M H' vs ds := r.keepG w.wg k
/-- a list that may turn turns: the rest stands -/
theorem sqT_upd {p : Addr} {o : HO} (hp : ∀ a vs, Rd H a (.tup vs) → a ≠ p) {a : Addr} {vs : List V} (h : SqT W.K H a vs) : SqT W.K (upd H p o) a vs := by
  rcases h with h | h
  · have e := hp a vs h
    rcases h with h | ⟨u, h⟩
    · exact .inl (.inl (by rw [upd_ne e]; exact h))
    · exact .inl (.inr ⟨u, by rw [upd_ne e]; exact h⟩)
  · exact .inr h
theorem rdT_lst {p : Addr} {xs : List V} (hp : H p = some (.lst xs)) : ∀ a vs, Rd H a (.tup vs) → a ≠ p := fun a vs h => by
  rcases h with h | ⟨u, h⟩
  · exact ne_of h hp (by intro z; cases z)
  · exact ne_of h hp (by intro z; cases z)
theorem rdT_ins {p C dx : Addr} {fs : List (Str × V)} (hp : H p = some (.ins C dx fs)) : ∀ a vs, Rd H a (.tup vs) → a ≠ p := fun a vs h => by
  rcases h with h | ⟨u, h⟩
  · exact ne_of h hp (by intro z; cases z)
  · exact ne_of h hp (by intro z; cases z)
theorem rdL_upd {p : Addr} {o : HO} {a : Addr} {vs : List V} (hp : M p) (n : ¬ M a) (h : H a = some (.lst vs)) : upd H p o a = some (.lst vs) := by
  have e : a ≠ p := fun z => n (by rw [z]; exact hp)
  rw [upd_ne e]
  exact h
theorem atU_upd {p : Addr} {o u : HO} {a : Addr} (hp : M p) (n : ¬ M a) (h : H a = some u) : upd H p o a = some u := by
  have e : a ≠ p := fun z => n (by rw [z]; exact hp)
  rw [upd_ne e]
  exact h
mutual
theorem Rep.upd {p : Addr} {o : HO} (hp : ∀ a vs, Rd H a (.tup vs) → a ≠ p) (hm : M p) : ∀ {v : V} {d : D}, Rep W M H v d → Rep W M (upd H p o) v d
  | _, _, .non => .non
  | _, _, .bl b => .bl b
  | _, _, .int i => .int i
  | _, _, .str x => .str x
  | _, _, .ty n => .ty n
  | _, _, .tup h r => .tup (sqT_upd hp h) (r.upd hp hm)
  | _, _, .lst n h r => .lst n (rdL_upd hm n h) (r.upd hp hm)
  | _, _, .st e => .st e
  | _, _, .obj a => .obj a
  | _, _, .dct n h => .dct n (atU_upd hm n h)
  | _, _, .ins n h e r => .ins n (atU_upd hm n h) e (r.upd hp hm)
  | _, _, .exc n h e r => .exc n (atU_upd hm n h) e (r.upd hp hm)
  | _, _, .xob0 n h => .xob0 n (atU_upd hm n h)
  | _, _, .xob n h n2 h2 e r => .xob n (atU_upd hm n h) n2 (atU_upd hm n2 h2) e (r.upd hp hm)
  | _, _, .dic n h e r => .dic n (atU_upd hm n h) e (r.upd hp hm)
theorem Reps.upd {p : Addr} {o : HO} (hp : ∀ a vs, Rd H a (.tup vs) → a ≠ p) (hm : M p) : ∀ {vs : List V} {ds : List D}, Reps W M H vs ds → Reps W M (upd H p o) vs ds
  | _, _, .nil => .nil
  | _, _, .cons r t => .cons (r.upd hp hm) (t.upd hp hm)
end
mutual
theorem Rep.anti (m : ∀ a, M' a → M a) : ∀ {v : V} {d : D}, Rep W M H v d → Rep W M' H v d
  | _, _, .non => .non
  | _, _, .bl b => .bl b
  | _, _, .int i => .int i
  | _, _, .str x => .str x
  | _, _, .ty n => .ty n
  | _, _, .tup h r => .tup h (r.anti m)
  | _, _, .lst n h r => .lst (fun x => n (m _ x)) h (r.anti m)
  | _, _, .st e => .st e
  | _, _, .obj a => .obj a
  | _, _, .dct n h => .dct (fun x => n (m _ x)) h
  | _, _, .ins n h e r => .ins (fun x => n (m _ x)) h e (r.anti m)
  | _, _, .exc n h e r => .exc (fun x => n (m _ x)) h e (r.anti m)
  | _, _, .xob0 n h => .xob0 (fun x => n (m _ x)) h
  | _, _, .xob n h n2 h2 e r => .xob (fun x => n (m _ x)) h (fun x => n2 (m _ x)) h2 e (r.anti m)
  | _, _, .dic n h e r => .dic (fun x => n (m _ x)) h e (r.anti m)
theorem Reps.anti (m : ∀ a, M' a → M a) : ∀ {vs : List V} {ds : List D}, Reps W M H vs ds → Reps W M' H vs ds
  | _, _, .nil => .nil
  | _, _, .cons r t => .cons (r.anti m) (t.anti m)
end
mutual
theorem Rep.more (n : ∀ a, M' a → ¬ M a → H a = none) : ∀ {v : V} {d : D}, Rep W M H v d → Rep W M' H v d
  | _, _, .non => .non
  | _, _, .bl b => .bl b
  | _, _, .int i => .int i
  | _, _, .str x => .str x
  | _, _, .ty n => .ty n
  | _, _, .tup h r => .tup h (r.more n)
  | _, _, .lst na h r => .lst (fun x => by
      rw [n _ x na] at h
      cases h) h (r.more n)
  | _, _, .st e => .st e
  | _, _, .obj a => .obj a
  | _, _, .dct na h => .dct (fun x => by
      rw [n _ x na] at h
      cases h) h
  | _, _, .ins na h e r => .ins (fun x => by
      rw [n _ x na] at h
      cases h) h e (r.more n)
  | _, _, .exc na h e r => .exc (fun x => by
      rw [n _ x na] at h
      cases h) h e (r.more n)
  | _, _, .xob0 na h => .xob0 (fun x => by
      rw [n _ x na] at h
      cases h) h
  | _, _, .xob na h n2 h2 e r => .xob (fun x => by
      rw [n _ x na] at h
      cases h) h (fun x => by
      rw [n _ x n2] at h2
      cases h2) h2 e (r.more n)
  | _, _, .dic na h e r => .dic (fun x => by
      rw [n _ x na] at h
      cases h) h e (r.more n)
theorem Reps.more (n : ∀ a, M' a → ¬ M a → H a = none) : ∀ {vs : List V} {ds : List D}, Reps W M H vs ds → Reps W M' H vs ds
  | _, _, .nil => .nil
  | _, _, .cons r t => .cons (r.more n) (t.more n)
end
/-- all stands, but for lists of M -/
def KeepM (W : Wd) (M : Addr → Prop) (H H' : Hp) : Prop := ∀ a o, W.s ≠ some a → (M a → ∀ vs, o ≠ .lst vs) → H a = some o → H' a = some o
theorem KeepM.mono (k : KeepM W M H H') (m : ∀ a, M a → M' a) : KeepM W M' H H' := fun a o n l h => k a o n (fun x => l (m a x)) h
theorem Keep.toM (k : Keep W H H') : KeepM W M H H' := fun a o n _ h => k a o n h
theorem sqT_keepM (w : Wg W M H) (k : KeepM W M H H') {a : Addr} {vs : List V} (h : SqT W.K H a vs) : SqT W.K H' a vs := by
  have no : ∀ {o : HO}, H a = some o → (∀ xs, o ≠ .lst xs) → W.s ≠ some a := fun {o} h n e => by
    obtain ⟨ns, i, c, m, q, _⟩ := w.g a e
    rw [h] at q
    exact n _ (Option.some.inj q)
  rcases h with (h | ⟨o, h⟩) | h
  · exact .inl (.inl (k a _ (no h fun _ z => by cases z) (fun _ _ z => by cases z) h))
  · exact .inl (.inr ⟨o, k a _ (no h fun _ z => by cases z) (fun _ _ z => by cases z) h⟩)
  · exact .inr h
theorem rdL_keepM (w : Wg W M H) (k : KeepM W M H H') {a : Addr} {vs : List V} (n : ¬ M a) (h : H a = some (.lst vs)) : H' a = some (.lst vs) := k a _ (fun e => n (w.sm a e)) (fun m => absurd m n) h
mutual
theorem Rep.keepM (w : Wg W M H) (k : KeepM W M H H') : ∀ {v : V} {d : D}, Rep W M H v d → Rep W M H' v d
  | _, _, .non => .non
  | _, _, .bl b => .bl b
  | _, _, .int i => .int i
  | _, _, .str x => .str x
  | _, _, .ty n => .ty n
  | _, _, .tup h r => .tup (sqT_keepM w k h) (r.keepM w k)
  | _, _, .lst n h r => .lst n (rdL_keepM w k n h) (r.keepM w k)
  | _, _, .st e => .st e
  | _, _, .obj a => .obj a
  | _, _, .dct n h => .dct n (k _ _ (fun e => n (w.sm _ e)) (fun m => absurd m n) h)
  | _, _, .ins n h e r => .ins n (k _ _ (fun e => n (w.sm _ e)) (fun m => absurd m n) h) e (r.keepM w k)
  | _, _, .exc n h e r => .exc n (k _ _ (fun e => n (w.sm _ e)) (fun m => absurd m n) h) e (r.keepM w k)
  | _, _, .xob0 n h => .xob0 n (k _ _ (fun e => n (w.sm _ e)) (fun m => absurd m n) h)
  | _, _, .xob n h n2 h2 e r => .xob n (k _ _ (fun e => n (w.sm _ e)) (fun m => absurd m n) h) n2 (k _ _ (fun e => n2 (w.sm _ e)) (fun m => absurd m n2) h2) e (r.keepM w k)
  | _, _, .dic n h e r => .dic n (k _ _ (fun e => n (w.sm _ e)) (fun m => absurd m n) h) e (r.keepM w k)
theorem Reps.keepM (w : Wg W M H) (k : KeepM W M H H') : ∀ {vs : List V} {ds : List D}, Reps W M H vs ds → Reps W M H' vs ds
  | _, _, .nil => .nil
  | _, _, .cons r t => .cons (r.keepM w k) (t.keepM w k)
end
end
end PD
namespace PD
abbrev Fr := Int × Int
def gcdI (a b : Int) : Nat := Nat.gcd a.natAbs b.natAbs
def lowF (a b : Int) : Fr := (a / (gcdI a b : Int), b / (gcdI a b : Int))
def IsF (p : Fr) : Prop := 1 ≤ p.2 ∧ gcdI p.1 p.2 = 1
theorem gcdI_pos {a b : Int} (h : b ≠ 0) : 0 < gcdI a b := Nat.gcd_pos_of_pos_right _ (by omega)
theorem gcdI_dvd1 (a b : Int) : ((gcdI a b : Nat) : Int) ∣ a := Int.ofNat_dvd_left.mpr (Nat.gcd_dvd_left _ _)
theorem gcdI_dvd2 (a b : Int) : ((gcdI a b : Nat) : Int) ∣ b := Int.ofNat_dvd_left.mpr (Nat.gcd_dvd_right _ _)
theorem gcdI_le {a b : Int} (h : b ≠ 0) : gcdI a b ≤ b.natAbs := Nat.le_of_dvd (by omega) (Nat.gcd_dvd_right _ _)
theorem lowF_isF {a b : Int} (h : 0 < b) : IsF (lowF a b) := by
  have hg : 0 < gcdI a b := gcdI_pos (by omega)
  have d1 := gcdI_dvd1 a b
  have d2 := gcdI_dvd2 a b
  constructor
  · show 1 ≤ b / (gcdI a b : Int)
    have : (gcdI a b : Int) ≤ b := Int.le_of_dvd h d2
    have := (Int.le_ediv_iff_mul_le (a := 1) (b := b) (c := (gcdI a b : Int)) (by omega)).mpr (by omega)
    exact this
  · show Nat.gcd (a / (gcdI a b : Int)).natAbs (b / (gcdI a b : Int)).natAbs = 1
    rw [Int.natAbs_ediv_of_dvd d1, Int.natAbs_ediv_of_dvd d2]
    show Nat.gcd (a.natAbs / gcdI a b) (b.natAbs / gcdI a b) = 1
    exact Nat.coprime_div_gcd_div_gcd hg
theorem lowF_cross {a b : Int} (h : 0 < b) : (lowF a b).1 * b = a * (lowF a b).2 := by
  obtain ⟨x, hx⟩ := gcdI_dvd1 a b
  obtain ⟨y, hy⟩ := gcdI_dvd2 a b
  have hg : (gcdI a b : Int) ≠ 0 := by have := gcdI_pos (a := a) (b := b) (by omega); omega
  show a / (gcdI a b : Int) * b = a * (b / (gcdI a b : Int))
  have e1 : a / (gcdI a b : Int) = x := by
    conv => lhs; rw [show a / (gcdI a b : Int) = ((gcdI a b : Int) * x) / (gcdI a b : Int) by rw [← hx]]
    exact Int.mul_ediv_cancel_left x hg
  have e2 : b / (gcdI a b : Int) = y := by
    conv => lhs; rw [show b / (gcdI a b : Int) = ((gcdI a b : Int) * y) / (gcdI a b : Int) by rw [← hy]]
    exact Int.mul_ediv_cancel_left y hg
  rw [e1, e2]
  generalize (gcdI a b : Int) = g at *
  rw [hx, hy]
  grind
theorem cross_dvd {a b c d : Int} (h : gcdI a b = 1) (e : a * d = c * b) : b ∣ d := by
  have h1 : b.natAbs ∣ a.natAbs * d.natAbs := by
    rw [← Int.natAbs_mul, e, Int.natAbs_mul]
    exact Nat.dvd_mul_left _ _
  have h2 : Nat.Coprime b.natAbs a.natAbs := by
    show Nat.gcd _ _ = 1
    rw [Nat.gcd_comm]
    exact h
  exact Int.natAbs_dvd_natAbs.mp (h2.dvd_of_dvd_mul_left h1)
theorem isF_inj {p q : Fr} (hp : IsF p) (hq : IsF q) (e : p.1 * q.2 = q.1 * p.2) : p = q := by
  obtain ⟨a, b⟩ := p
  obtain ⟨c, d⟩ := q
  obtain ⟨hb, hp⟩ := hp
  obtain ⟨hd, hq⟩ := hq
  simp only at *
  have d1 : b ∣ d := cross_dvd hp e
  have d2 : d ∣ b := cross_dvd (a := c) (b := d) (c := a) (d := b) hq e.symm
  have e2 : b = d := Int.dvd_antisymm (by omega) (by omega) d1 d2
  subst e2
  have e3 : a = c := Int.eq_of_mul_eq_mul_right (by omega) e
  rw [e3]
theorem lowF_eq {a b : Int} {p : Fr} (h : 0 < b) (hp : IsF p) (e : p.1 * b = a * p.2) : lowF a b = p := by
  refine isF_inj (lowF_isF h) hp ?_
  have e1 := lowF_cross (a := a) h
  have hb : b ≠ 0 := by omega
  apply Int.eq_of_mul_eq_mul_right hb
  grind
theorem lowF_self {p : Fr} (hp : IsF p) : lowF p.1 p.2 = p := lowF_eq (by have := hp.1; omega) hp rfl
end PD
namespace PD
end PD
namespace PD
open PySem PySem.Spec PyProof.Rows L2
structure Slots (W : Wd) (M : Addr → Prop) (H : Hp) (σ : L2.St) (δ : DS) : Prop where
  len : σ.length = δ.length
  get : ∀ (i : Nat) (d : D), δ[i]? = some (some d) → ∃ v, σ[i]? = some (some v) ∧ Rep W M H v d
structure Pre (W : Wd) (M : Addr → Prop) (δ : DS) (σ : L2.St) (H : Hp) : Prop where
  wf : Wf W M H
  sl : Slots W M H σ δ
theorem Slots.set {W : Wd} {M : Addr → Prop} {H : Hp} {σ : L2.St} {δ : DS} (s : Slots W M H σ δ) (i : Nat) {v : V} {d : D} (r : Rep W M H v d) : Slots W M H (σ.set i (some v)) (δ.set i (some d)) where
  len := by rw [List.length_set, List.length_set]; exact s.len
  get := fun j e h => by
    by_cases hj : i = j
    · subst hj
      rw [List.getElem?_set] at h
      rw [List.getElem?_set]
      by_cases hl : i < δ.length
      · rw [if_pos rfl, if_pos hl] at h
        rw [if_pos rfl, if_pos (by rw [s.len]; exact hl)]
        have e1 : d = e := Option.some.inj (Option.some.inj h)
        subst e1
        exact ⟨v, rfl, r⟩
      · rw [if_pos rfl, if_neg hl] at h
        cases h
    · rw [List.getElem?_set, if_neg hj] at h
      rw [List.getElem?_set, if_neg hj]
      exact s.get j e h
/-- a slot of which nothing is said -/
theorem Slots.drop {W : Wd} {M : Addr → Prop} {H : Hp} {σ : L2.St} {δ : DS} (s : Slots W M H σ δ) (i : Nat) (x : Option V) : Slots W M H (σ.set i x) (δ.set i none) where
  len := by rw [List.length_set, List.length_set]; exact s.len
  get := fun j e h => by
    by_cases hj : i = j
    · subst hj
      rw [List.getElem?_set] at h
      by_cases hl : i < δ.length
      · rw [if_pos rfl, if_pos hl] at h
        cases h
      · rw [if_pos rfl, if_neg hl] at h
        cases h
    · rw [List.getElem?_set, if_neg hj] at h
      rw [List.getElem?_set, if_neg hj]
      exact s.get j e h
theorem Pre.next {W : Wd} {M : Addr → Prop} {δ : DS} {σ : L2.St} {H H' : Hp} (p : Pre W M δ σ H) (g : StOk W H') (k : Keep W H H') : Pre W M δ σ H' :=
  ⟨p.wf.next g k, p.sl.len, fun i d h => by
    obtain ⟨v, h1, h2⟩ := p.sl.get i d h
    exact ⟨v, h1, h2.keep p.wf k⟩⟩
def wipeD (δ : DS) : List Nat → DS
  | [] => δ
  | v :: vs => (wipeD δ vs).set v none
theorem Slots.wipe {W : Wd} {M : Addr → Prop} {H : Hp} {σ : L2.St} {δ : DS} (s : Slots W M H σ δ) : ∀ vs : List Nat, Slots W M H (L2.wipe σ vs) (wipeD δ vs)
  | [] => s
  | v :: vs => (s.wipe vs).drop v none
def EvD (W : Wd) (te : TE) (δ : DS) (P : D → Prop) : Prop := ∀ (M : Addr → Prop) (σ : L2.St) (H : Hp), Pre W M δ σ H → ∀ Q : VK, (∀ v d H', StOk W H' → Keep W H H' → Rep W M H' v d → P d → Q v H') → te σ H Q
def EvT (W : Wd) (tt : TT) (δ : DS) (P : Bool → Prop) : Prop := ∀ (M : Addr → Prop) (σ : L2.St) (H : Hp), Pre W M δ σ H → ∀ Q : Bool → Hp → Prop, (∀ b H', StOk W H' → Keep W H H' → P b → Q b H') → tt σ H Q
def EvA (W : Wd) (ta : TA) (δ : DS) (P : List D → Prop) : Prop := ∀ (M : Addr → Prop) (σ : L2.St) (H : Hp), Pre W M δ σ H → ∀ Q : List V → Hp → Prop, (∀ vs ds H', StOk W H' → Keep W H H' → Reps W M H' vs ds → P ds → Q vs H') → ta σ H Q
def RD (W : Wd) (r : R2) (x y : D) (P : D → Prop) : Prop := ∀ (M : Addr → Prop) (H : Hp) (v u : V), Wf W M H → Rep W M H v x → Rep W M H u y → ∀ Q : VK, (∀ z d H', StOk W H' → Keep W H H' → Rep W M H' z d → P d → Q z H') → r v u H Q
def RUD (W : Wd) (r : V → Hp → VK → Prop) (x : D) (P : D → Prop) : Prop := ∀ (M : Addr → Prop) (H : Hp) (v : V), Wf W M H → Rep W M H v x → ∀ Q : VK, (∀ z d H', StOk W H' → Keep W H H' → Rep W M H' z d → P d → Q z H') → r v H Q
def RCD (W : Wd) (r : List V → Hp → VK → Prop) (xs : List D) (P : D → Prop) : Prop := ∀ (M : Addr → Prop) (H : Hp) (vs : List V), Wf W M H → Reps W M H vs xs → ∀ Q : VK, (∀ z d H', StOk W H' → Keep W H H' → Rep W M H' z d → P d → Q z H') → r vs H Q
section
variable {W : Wd} {δ : DS} {P : D → Prop} {ta tb te : TE} {t u : TT}
theorem ev_mono {P' : D → Prop} (h : EvD W te δ P) (k : ∀ d, P d → P' d) : EvD W te δ P' := fun M σ H p Q q => h M σ H p Q fun v d H' g kp r hP => q v d H' g kp r (k d hP)
theorem ev_var {i : Nat} {d : D} (h : δ[i]? = some (some d)) (hP : P d) : EvD W (tVar i) δ P := fun M σ H p Q q => by
  obtain ⟨v, h1, h2⟩ := p.sl.get i d h
  exact ⟨v, h1, q v d H p.wf.g (Keep.refl H) h2 hP⟩
theorem ev_c {v : V} {d : D} (hr : ∀ M H, Rep W M H v d) (hP : P d) : EvD W (tC v) δ P := fun M σ H p Q q => q v d H p.wf.g (Keep.refl H) (hr M H) hP
theorem ev_int {i : Int} (hP : P (.int i)) : EvD W (tC (.int i)) δ P := ev_c (fun _ _ => .int i) hP
theorem ev_bl {b : Bool} (hP : P (.bl b)) : EvD W (tC (.bl b)) δ P := ev_c (fun _ _ => .bl b) hP
theorem ev_non (hP : P .non) : EvD W (tC .non) δ P := ev_c (fun _ _ => .non) hP
theorem ev_str {x : Str} (hP : P (.str x)) : EvD W (tC (.str x)) δ P := ev_c (fun _ _ => .str x) hP
theorem ev_ty {n : String} (hP : P (.ty n)) : EvD W (tC (.ty n)) δ P := ev_c (fun _ _ => .ty n) hP
theorem ev_op {r : R2} (h : EvD W ta δ fun x => EvD W tb δ fun y => RD W r x y P) : EvD W (tOp r ta tb) δ P := fun M σ H p Q q =>
  h M σ H p _ fun v x H1 g1 k1 r1 h1 => h1 M σ H1 (p.next g1 k1) _ fun u y H2 g2 k2 r2 h2 =>
    h2 M H2 v u ((p.wf.next g1 k1).next g2 k2) (r1.keep (p.wf.next g1 k1) k2) r2 Q fun z d H3 g3 k3 r3 h3 => q z d H3 g3 ((k1.trans k2).trans k3) r3 h3
theorem ev_un {r : V → Hp → VK → Prop} (h : EvD W ta δ fun x => RUD W r x P) : EvD W (tUn r ta) δ P := fun M σ H p Q q =>
  h M σ H p _ fun v x H1 g1 k1 r1 h1 => h1 M H1 v (p.wf.next g1 k1) r1 Q fun z d H3 g3 k3 r3 h3 => q z d H3 g3 (k1.trans k3) r3 h3
theorem ev_chain {r r' : R2} {tc : TE} (h : EvD W ta δ fun x => EvD W tb δ fun y => RD W r x y fun z => ∃ k, z = .bl k ∧ (k = true → EvD W tc δ fun c => RD W r' y c P) ∧ (k = false → P (.bl false))) : EvD W (tChain r r' ta tb tc) δ P := fun M σ H p Q q =>
  h M σ H p _ fun v x H1 g1 k1 r1 h1 => h1 M σ H1 (p.next g1 k1) _ fun u y H2 g2 k2 r2 h2 =>
    h2 M H2 v u ((p.wf.next g1 k1).next g2 k2) (r1.keep (p.wf.next g1 k1) k2) r2 _ fun z d H3 g3 k3 r3 h3 => by
      obtain ⟨k, rfl, hT, hF⟩ := h3
      cases r3
      refine ⟨k, rfl, ?_⟩
      have p3 := ((p.next g1 k1).next g2 k2).next g3 k3
      cases k with
      | true =>
        rw [if_pos rfl]
        exact hT rfl M σ H3 p3 _ fun w c H4 g4 k4 r4 h4 => h4 M H4 u w (p3.wf.next g4 k4) ((r2.keep ((p.wf.next g1 k1).next g2 k2) k3).keep p3.wf k4) r4 Q fun z d H5 g5 k5 r5 h5 => q z d H5 g5 ((((k1.trans k2).trans k3).trans k4).trans k5) r5 h5
      | false =>
        rw [if_neg Bool.false_ne_true]
        exact q _ _ H3 g3 ((k1.trans k2).trans k3) (.bl false) (hF rfl)
theorem ev_andV (h : EvD W ta δ fun x => ∃ b, x = .bl b ∧ (b = true → EvD W tb δ P) ∧ (b = false → P (.bl false))) : EvD W (tAndV ta tb) δ P := fun M σ H p Q q =>
  h M σ H p _ fun v x H1 g1 k1 r1 h1 => by
    obtain ⟨b, rfl, hT, hF⟩ := h1
    cases r1
    refine ⟨b, rfl, ?_⟩
    cases b with
    | true =>
      rw [if_pos rfl]
      exact hT rfl M σ H1 (p.next g1 k1) Q fun z d H3 g3 k3 r3 h3 => q z d H3 g3 (k1.trans k3) r3 h3
    | false =>
      rw [if_neg Bool.false_ne_true]
      exact q _ _ H1 g1 k1 (.bl false) (hF rfl)
theorem ev_orV (h : EvD W ta δ fun x => ∃ b, x = .bl b ∧ (b = false → EvD W tb δ P) ∧ (b = true → P (.bl true))) : EvD W (tOrV ta tb) δ P := fun M σ H p Q q =>
  h M σ H p _ fun v x H1 g1 k1 r1 h1 => by
    obtain ⟨b, rfl, hF, hT⟩ := h1
    cases r1
    refine ⟨b, rfl, ?_⟩
    cases b with
    | false =>
      rw [if_neg Bool.false_ne_true]
      exact hF rfl M σ H1 (p.next g1 k1) Q fun z d H3 g3 k3 r3 h3 => q z d H3 g3 (k1.trans k3) r3 h3
    | true =>
      rw [if_pos rfl]
      exact q _ _ H1 g1 k1 (.bl true) (hT rfl)
theorem ev_notV (h : EvD W ta δ fun x => ∃ b, x = .bl b ∧ P (.bl (!b))) : EvD W (tNotV ta) δ P := fun M σ H p Q q =>
  h M σ H p _ fun v x H1 g1 k1 r1 h1 => by
    obtain ⟨b, rfl, hP⟩ := h1
    cases r1
    exact ⟨b, rfl, q _ _ H1 g1 k1 (.bl _) hP⟩
theorem ev_if (h : EvT W t δ fun b => (b = true → EvD W ta δ P) ∧ (b = false → EvD W tb δ P)) : EvD W (tIf t ta tb) δ P := fun M σ H p Q q =>
  h M σ H p _ fun b H1 g1 k1 h1 => by
    cases b with
    | true =>
      rw [if_pos rfl]
      exact h1.1 rfl M σ H1 (p.next g1 k1) Q fun z d H3 g3 k3 r3 h3 => q z d H3 g3 (k1.trans k3) r3 h3
    | false =>
      rw [if_neg Bool.false_ne_true]
      exact h1.2 rfl M σ H1 (p.next g1 k1) Q fun z d H3 g3 k3 r3 h3 => q z d H3 g3 (k1.trans k3) r3 h3
theorem et_B {P : Bool → Prop} (h : EvD W te δ fun x => ∃ b, x = .bl b ∧ P b) : EvT W (tB te) δ P := fun M σ H p Q q => h M σ H p _ fun v x H1 g1 k1 r1 h1 => by
  obtain ⟨b, rfl, hP⟩ := h1
  cases r1
  exact ⟨b, rfl, q b H1 g1 k1 hP⟩
theorem et_test {P : Bool → Prop} (h : EvD W te δ fun x => ∃ b, x = .bl b ∧ P b) : EvT W (tTest te) δ P := et_B h
theorem et_and {P : Bool → Prop} (h : EvT W t δ fun b => (b = true → EvT W u δ P) ∧ (b = false → P false)) : EvT W (tAnd t u) δ P := fun M σ H p Q q =>
  h M σ H p _ fun b H1 g1 k1 h1 => by
    cases b with
    | true =>
      rw [if_pos rfl]
      exact h1.1 rfl M σ H1 (p.next g1 k1) Q fun c H3 g3 k3 h3 => q c H3 g3 (k1.trans k3) h3
    | false =>
      rw [if_neg Bool.false_ne_true]
      exact q _ H1 g1 k1 (h1.2 rfl)
theorem et_or {P : Bool → Prop} (h : EvT W t δ fun b => (b = false → EvT W u δ P) ∧ (b = true → P true)) : EvT W (tOr t u) δ P := fun M σ H p Q q =>
  h M σ H p _ fun b H1 g1 k1 h1 => by
    cases b with
    | false =>
      rw [if_neg Bool.false_ne_true]
      exact h1.1 rfl M σ H1 (p.next g1 k1) Q fun c H3 g3 k3 h3 => q c H3 g3 (k1.trans k3) h3
    | true =>
      rw [if_pos rfl]
      exact q _ H1 g1 k1 (h1.2 rfl)
theorem et_not {P : Bool → Prop} (h : EvT W t δ fun b => P (!b)) : EvT W (tNot t) δ P := fun M σ H p Q q => h M σ H p _ fun b H1 g1 k1 h1 => q (!b) H1 g1 k1 h1
theorem ea_nil {P : List D → Prop} (h : P []) : EvA W tNil δ P := fun M σ H p Q q => q [] [] H p.wf.g (Keep.refl H) .nil h
theorem ea_cons {P : List D → Prop} {tr : TA} (h : EvD W te δ fun x => EvA W tr δ fun xs => P (x :: xs)) : EvA W (tCons te tr) δ P := fun M σ H p Q q =>
  h M σ H p _ fun v x H1 g1 k1 r1 h1 => h1 M σ H1 (p.next g1 k1) _ fun vs xs H2 g2 k2 r2 h2 => q (v :: vs) (x :: xs) H2 g2 (k1.trans k2) (.cons (r1.keep (p.wf.next g1 k1) k2) r2) h2
theorem ev_cb {r : List V → Hp → VK → Prop} {tr : TA} (h : EvA W tr δ fun xs => RCD W r xs P) : EvD W (tCB r tr) δ P := fun M σ H p Q q =>
  h M σ H p _ fun vs xs H1 g1 k1 r1 h1 => h1 M H1 vs (p.wf.next g1 k1) r1 Q fun z d H2 g2 k2 r2 h2 => q z d H2 g2 (k1.trans k2) r2 h2
theorem len_ok {n : Nat} (h : n ≤ 100000) : n ≤ sizeLine := Nat.le_trans h (by decide)
theorem newT {M : Addr → Prop} {H : Hp} {p : Addr} {vs : List V} {ds : List D} (w : Wf W M H) (r : Reps W M H vs ds) (hp : H p = none) : StOk W (upd H p (.tup vs)) ∧ Keep W H (upd H p (.tup vs)) ∧ Rep W M (upd H p (.tup vs)) (.ref p) (.tup ds) :=
  ⟨w.g.new hp, Keep.new hp, .tup (SqT.of upd_same) (r.keep w (Keep.new hp))⟩
theorem newL {M : Addr → Prop} {H : Hp} {p : Addr} {vs : List V} {ds : List D} (w : Wf W M H) (r : Reps W M H vs ds) (hp : H p = none) : StOk W (upd H p (.lst vs)) ∧ Keep W H (upd H p (.lst vs)) ∧ Rep W M (upd H p (.lst vs)) (.ref p) (.lst ds) :=
  ⟨w.g.new hp, Keep.new hp, .lst (fun m => by
    obtain ⟨o, ho⟩ := w.dom p m
    rw [hp] at ho
    cases ho) upd_same (r.keep w (Keep.new hp))⟩
theorem ev_tup {tr : TA} (h : EvA W tr δ fun xs => xs.length ≤ 100000 ∧ P (.tup xs)) : EvD W (tTup tr) δ P := fun M σ H p Q q =>
  h M σ H p _ fun vs xs H1 g1 k1 r1 ⟨hl, hP⟩ => ⟨len_ok (by rw [r1.length]; exact hl), fun a ha => by
    obtain ⟨x1, x2, x3⟩ := newT (p.wf.next g1 k1) r1 ha
    exact q _ _ _ x1 (k1.trans x2) x3 hP⟩
theorem ev_lst {tr : TA} (h : EvA W tr δ fun xs => xs.length ≤ 100000 ∧ P (.lst xs)) : EvD W (tLst tr) δ P := fun M σ H p Q q =>
  h M σ H p _ fun vs xs H1 g1 k1 r1 ⟨hl, hP⟩ => ⟨len_ok (by rw [r1.length]; exact hl), fun a ha => by
    obtain ⟨x1, x2, x3⟩ := newL (p.wf.next g1 k1) r1 ha
    exact q _ _ _ x1 (k1.trans x2) x3 hP⟩
theorem rd_I0 {f : Int → Int → Int} {i j : Int} (h : P (.int (f i j))) : RD W (rI0 fun i j => .int (f i j)) (.int i) (.int j) P := fun M H v u w r1 r2 Q q => by
  cases r1
  cases r2
  exact ⟨i, j, rfl, rfl, q _ _ H w.g (Keep.refl H) (.int _) h⟩
theorem rd_I0b {f : Int → Int → Bool} {i j : Int} (h : P (.bl (f i j))) : RD W (rI0 fun i j => .bl (f i j)) (.int i) (.int j) P := fun M H v u w r1 r2 Q q => by
  cases r1
  cases r2
  exact ⟨i, j, rfl, rfl, q _ _ H w.g (Keep.refl H) (.bl _) h⟩
theorem rd_I {C : Int → Int → Prop} {f : Int → Int → Int} {i j : Int} (hc : C i j) (h : P (.int (f i j))) : RD W (rI C fun i j => .int (f i j)) (.int i) (.int j) P := fun M H v u w r1 r2 Q q => by
  cases r1
  cases r2
  exact ⟨i, j, rfl, rfl, hc, q _ _ H w.g (Keep.refl H) (.int _) h⟩
theorem ru_I {f : Int → Int} {i : Int} (h : P (.int (f i))) : RUD W (rU fun i => .int (f i)) (.int i) P := fun M H v w r1 Q q => by
  cases r1
  exact ⟨i, rfl, q _ _ H w.g (Keep.refl H) (.int _) h⟩
theorem atI_D {M : Addr → Prop} {H : Hp} {vs : List V} {ds : List D} {i : Int} {j : Nat} {d : D} (r : Reps W M H vs ds) (hi : i = (j : Int)) (h : ds[j]? = some d) : ∃ v, atI vs i = some v ∧ Rep W M H v d := by
  obtain ⟨v, h1, h2⟩ := r.get h
  exact ⟨v, at_of hi h1, h2⟩
/-- x[i], i from the left -/
theorem rd_ixT {i : Int} {j : Nat} {ds : List D} {d : D} (hi : i = (j : Int)) (h : ds[j]? = some d) (hP : P d) : RD W (rIx W.K) (.tup ds) (.int i) P := fun M H v u w r1 r2 Q q => by
  cases r1 with
  | tup hs hr =>
    cases r2
    obtain ⟨x, h1, h2⟩ := atI_D hr hi h
    exact .inr (.inl ⟨_, _, i, x, rfl, rfl, hs, h1, q x d H w.g (Keep.refl H) h2 hP⟩)
theorem rd_ixL {i : Int} {j : Nat} {ds : List D} {d : D} (hi : i = (j : Int)) (h : ds[j]? = some d) (hP : P d) : RD W (rIx W.K) (.lst ds) (.int i) P := fun M H v u w r1 r2 Q q => by
  cases r1 with
  | lst hn hs hr =>
    cases r2
    obtain ⟨x, h1, h2⟩ := atI_D hr hi h
    exact .inl ⟨_, _, i, x, rfl, rfl, .inl (.inl hs), h1, q x d H w.g (Keep.refl H) h2 hP⟩
theorem rc_lenT {ds : List D} (h : P (.int (ds.length : Int))) : RCD W (fun xs H Q => ∃ x n, xs = [x] ∧ LenV W.K x H n ∧ Q (.int n) H) [.tup ds] P := fun M H vs w r Q q => by
  cases r with
  | cons r1 r2 =>
    cases r2
    cases r1 with
    | tup hs hr => exact ⟨_, _, rfl, .inr ⟨_, hs, rfl⟩, q _ _ H w.g (Keep.refl H) (.int _) (by rw [hr.length]; exact h)⟩
theorem rc_lenL {ds : List D} (h : P (.int (ds.length : Int))) : RCD W (fun xs H Q => ∃ x n, xs = [x] ∧ LenV W.K x H n ∧ Q (.int n) H) [.lst ds] P := fun M H vs w r Q q => by
  cases r with
  | cons r1 r2 =>
    cases r2
    cases r1 with
    | lst hn hs hr => exact ⟨_, _, rfl, .inl ⟨_, .inl (.inl hs), rfl⟩, q _ _ H w.g (Keep.refl H) (.int _) (by rw [hr.length]; exact h)⟩
theorem rc_abs {i : Int} (h : P (.int (if i < 0 then -i else i))) : RCD W (fun xs H Q => ∃ i, xs = [.int i] ∧ Q (.int (if i < 0 then -i else i)) H) [.int i] P := fun M H vs w r Q q => by
  cases r with
  | cons r1 r2 =>
    cases r2
    cases r1
    exact ⟨i, rfl, q _ _ H w.g (Keep.refl H) (.int _) h⟩
theorem rc_int1 {i : Int} (h : P (.int i)) : RCD W (fun xs H Q => (∃ i, xs = [.int i] ∧ Q (.int i) H) ∨ ∃ k, xs = [.bl k] ∧ Q (.int (if k then 1 else 0)) H) [.int i] P := fun M H vs w r Q q => by
  cases r with
  | cons r1 r2 =>
    cases r2
    cases r1
    exact .inl ⟨i, rfl, q _ _ H w.g (Keep.refl H) (.int _) h⟩
theorem rc_gcd {i j : Int} (h : P (.int ((Nat.gcd i.natAbs j.natAbs : Nat) : Int))) : RCD W rGcd [.int i, .int j] P := fun M H vs w r Q q => by
  cases r with
  | cons r1 r2 =>
    cases r2 with
    | cons r2 r3 =>
      cases r3
      cases r1
      cases r2
      exact ⟨i, j, rfl, q _ _ H w.g (Keep.refl H) (.int _) h⟩
theorem rc_tupL {ds : List D} (h : P (.tup ds)) : RCD W (fun xs H Q => ∃ p ys, xs = [.ref p] ∧ ((SqL W.K H p ys ∧ ∀ l, H l = none → Q (.ref l) (upd H l (.tup ys))) ∨ (SqT W.K H p ys ∧ Q (.ref p) H))) [.lst ds] P := fun M H vs w r Q q => by
  cases r with
  | cons r1 r2 =>
    cases r2
    cases r1 with
    | lst hn hs hr =>
      refine ⟨_, _, rfl, .inl ⟨.inl (.inl hs), fun l hl => ?_⟩⟩
      obtain ⟨x1, x2, x3⟩ := newT w hr hl
      exact q _ _ _ x1 x2 x3 h
theorem rc_listT {ds : List D} (h : P (.lst ds)) : RCD W (fun xs H Q => ∃ p ys, xs = [.ref p] ∧ (SqL W.K H p ys ∨ SqT W.K H p ys) ∧ ∀ l, H l = none → Q (.ref l) (upd H l (.lst ys))) [.tup ds] P := fun M H vs w r Q q => by
  cases r with
  | cons r1 r2 =>
    cases r2
    cases r1 with
    | tup hs hr =>
      refine ⟨_, _, rfl, .inr hs, fun l hl => ?_⟩
      obtain ⟨x1, x2, x3⟩ := newL w hr hl
      exact q _ _ _ x1 x2 x3 h
theorem reps_bls {M : Addr → Prop} {H : Hp} : ∀ {bs : List Bool} {vs : List V}, Reps W M H vs (bs.map D.bl) → vs = bs.map V.bl
  | [], _, .nil => rfl
  | b :: bs, _, .cons r t => by
    cases r
    rw [reps_bls t]
    rfl
theorem rc_all {bs : List Bool} (h : P (.bl (bs.all id))) : RCD W (rAll W.K) [.lst (bs.map D.bl)] P := fun M H vs w r Q q => by
  cases r with
  | cons r1 r2 =>
    cases r2
    cases r1 with
    | lst hn hs hr =>
      have e := reps_bls hr
      subst e
      exact ⟨_, bs, rfl, .inl (.inl hs), q _ _ H w.g (Keep.refl H) (.bl _) h⟩
def rOr (r r' : R2) : R2 := fun x y H Q => r x y H Q ∨ r' x y H Q
theorem opOr {X : Cx} {f : Value → Value → Sem Value} {r r' : R2} (h : OpR X f r) (h' : OpR X f r') : OpR X f (rOr r r') := by
  intro pins s σ H x y v u Q I rx ry z
  rcases z with z | z
  · exact h pins s σ H x y v u Q I rx ry z
  · exact h' pins s σ H x y v u Q I rx ry z
theorem rd_orl {r r' : R2} {x y : D} (h : RD W r x y P) : RD W (rOr r r') x y P := fun M H v u w r1 r2 Q q => .inl (h M H v u w r1 r2 Q q)
theorem rd_orr {r r' : R2} {x y : D} (h : RD W r' x y P) : RD W (rOr r r') x y P := fun M H v u w r1 r2 Q q => .inr (h M H v u w r1 r2 Q q)
abbrev rAddI : R2 := rI0 fun i j => .int (i + j)
theorem rd_catL {xs ys : List D} (hl : xs.length + ys.length ≤ 100000) (h : P (.lst (xs ++ ys))) : RD W rCat (.lst xs) (.lst ys) P := fun M H v u w r1 r2 Q q => by
  cases r1 with
  | lst n1 h1 q1 =>
    cases r2 with
    | lst n2 h2 q2 =>
      refine ⟨_, _, _, _, rfl, rfl, h1, h2, len_ok (by rw [q1.length, q2.length]; exact hl), fun p hp => ?_⟩
      obtain ⟨x1, x2, x3⟩ := newL w (q1.append q2) hp
      exact q _ _ _ x1 x2 x3 h
theorem rd_catT {xs ys : List D} (hl : xs.length + ys.length ≤ 100000) (h : P (.tup (xs ++ ys))) : RD W (rCatA W.K) (.tup xs) (.tup ys) P := fun M H v u w r1 r2 Q q => by
  cases r1 with
  | tup h1 q1 =>
    cases r2 with
    | tup h2 q2 =>
      refine ⟨_, _, _, _, rfl, rfl, h1, h2, len_ok (by rw [q1.length, q2.length]; exact hl), fun e => ?_, fun _ e => ?_, fun _ _ p hp => ?_⟩
      · subst e
        cases q1
        exact q _ (.tup ys) H w.g (Keep.refl H) (.tup h2 q2) h
      · subst e
        cases q2
        rw [List.append_nil] at h
        exact q _ (.tup xs) H w.g (Keep.refl H) (.tup h1 q1) h
      · obtain ⟨x1, x2, x3⟩ := newT w (q1.append q2) hp
        exact q _ _ _ x1 x2 x3 h
def rPlus (K : PySem.W.Frag) : R2 := rOr rAddI (rOr rCat (rCatA K))
theorem op_plus {X : Cx} : OpR X (binaryOp .Add) (rPlus X.K) := opOr op_add (opOr op_cat op_catA)
theorem rd_plusI {i j : Int} (h : P (.int (i + j))) : RD W (rPlus W.K) (.int i) (.int j) P := rd_orl (rd_I0 h)
theorem rd_plusL {xs ys : List D} (hl : xs.length + ys.length ≤ 100000) (h : P (.lst (xs ++ ys))) : RD W (rPlus W.K) (.lst xs) (.lst ys) P := rd_orr (rd_orl (rd_catL hl h))
theorem rd_plusT {xs ys : List D} (hl : xs.length + ys.length ≤ 100000) (h : P (.tup (xs ++ ys))) : RD W (rPlus W.K) (.tup xs) (.tup ys) P := rd_orr (rd_orr (rd_catT hl h))
/-- types by their names -/
def D.tyName : D → Option String
  | .non => some "NoneType"
  | .bl _ => some "bool"
  | .int _ => some "int"
  | .str _ => some "str"
  | .tup _ => some "tuple"
  | .lst _ => some "list"
  | .dct => some "dict"
  | .dic _ _ => some "dict"
  | _ => none
def D.isInt : D → Bool
  | .int _ => true
  | _ => false
theorem tyx {M : Addr → Prop} {H : Hp} {v : V} {d : D} {n : String} (r : Rep W M H v d) (h : d.tyName = some n) : TyX W.K H v (.type n) := by
  cases r with
  | non => cases h; exact .base .non
  | bl b => cases h; exact .base (.bl b)
  | int i => cases h; exact .base (.int i)
  | str x => cases h; exact .base (.str x)
  | ty m => cases h
  | tup hs hr =>
    cases h
    rcases hs with (hs | ⟨o, hs⟩) | ⟨o, its, m, e, c, _⟩
    · exact .base (.tup hs)
    · exact .fTuple hs
    · exact .kTuple e c
  | lst hn hs hr =>
    cases h
    exact .base (.lst hs)
  | st e => cases h
  | obj a => cases h
  | dct n e => cases h; exact .base (.dK e)
  | ins n e _ _ => cases h
  | exc n e _ _ => cases h
  | xob0 => cases h
  | xob => cases h
  | dic n e _ _ => cases h; exact .base (.dK e)
theorem rc_isi {x : D} {n m : String} {b : Bool} (hx : x.tyName = some m) (hk : kitB m n = some b) (h : P (.bl b)) : RCD W (rIsi W.K) [x, .ty n] P := fun M H vs w r Q q => by
  cases r with
  | cons r1 r2 =>
    cases r2 with
    | cons r2 r3 =>
      cases r3
      cases r2
      exact ⟨_, _, _, _, b, rfl, .ty n, tyx r1 hx, kit_ty hk, q _ _ H w.g (Keep.refl H) (.bl b) h⟩
def D.isBl : D → Bool
  | .bl _ => true
  | _ => false
def D.isTup : D → Bool
  | .tup _ => true
  | _ => false
theorem rc_isiI {x : D} (hx : x.tyName.isSome = true) (h : P (.bl (x.isInt || x.isBl))) : RCD W (rIsi W.K) [x, .ty "int"] P := by
  cases x <;> first | exact rc_isi rfl (b := true) (by decide +kernel) h | exact rc_isi rfl (b := false) (by decide +kernel) h | cases hx
theorem rc_isiB {x : D} (hx : x.tyName.isSome = true) (h : P (.bl x.isBl)) : RCD W (rIsi W.K) [x, .ty "bool"] P := by
  cases x <;> first | exact rc_isi rfl (b := true) (by decide +kernel) h | exact rc_isi rfl (b := false) (by decide +kernel) h | cases hx
theorem rc_isiT {x : D} (hx : x.tyName.isSome = true) (h : P (.bl x.isTup)) : RCD W (rIsi W.K) [x, .ty "tuple"] P := by
  cases x <;> first | exact rc_isi rfl (b := true) (by decide +kernel) h | exact rc_isi rfl (b := false) (by decide +kernel) h | cases hx
theorem exb_t {c : Bool} {A B : Prop} (hc : c = true) (h : A) : ∃ b, D.bl c = D.bl b ∧ (b = true → A) ∧ (b = false → B) := ⟨c, rfl, fun _ => h, fun z => by rw [hc] at z; cases z⟩
theorem exb_f {c : Bool} {A B : Prop} (hc : c = false) (h : B) : ∃ b, D.bl c = D.bl b ∧ (b = true → A) ∧ (b = false → B) := ⟨c, rfl, fun z => (by rw [hc] at z; cases z), fun _ => h⟩
theorem exo_f {c : Bool} {A B : Prop} (hc : c = false) (h : A) : ∃ b, D.bl c = D.bl b ∧ (b = false → A) ∧ (b = true → B) := ⟨c, rfl, fun _ => h, fun z => by rw [hc] at z; cases z⟩
theorem exo_t {c : Bool} {A B : Prop} (hc : c = true) (h : B) : ∃ b, D.bl c = D.bl b ∧ (b = false → A) ∧ (b = true → B) := ⟨c, rfl, fun z => (by rw [hc] at z; cases z), fun _ => h⟩
theorem bt {c : Bool} {A B : Prop} (hc : c = true) (h : A) : (c = true → A) ∧ (c = false → B) := ⟨fun _ => h, fun z => by rw [hc] at z; cases z⟩
theorem bf {c : Bool} {A B : Prop} (hc : c = false) (h : B) : (c = true → A) ∧ (c = false → B) := ⟨fun z => (by rw [hc] at z; cases z), fun _ => h⟩
theorem bof {c : Bool} {A B : Prop} (hc : c = false) (h : A) : (c = false → A) ∧ (c = true → B) := ⟨fun _ => h, fun z => by rw [hc] at z; cases z⟩
theorem bot {c : Bool} {A B : Prop} (hc : c = true) (h : B) : (c = false → A) ∧ (c = true → B) := ⟨fun z => (by rw [hc] at z; cases z), fun _ => h⟩
theorem exb {c : Bool} {A : Bool → Prop} (h : A c) : ∃ b, D.bl c = D.bl b ∧ A b := ⟨c, rfl, h⟩
mutual
def D.py : D → PyData
  | .non => .none
  | .bl b => .bool b
  | .int i => .int i
  | .str x => .str x
  | .tup xs => .tuple (D.pys xs)
  | .lst xs => .list (D.pys xs)
  | _ => .dict []
def D.pys : List D → List PyData
  | [] => []
  | x :: xs => x.py :: D.pys xs
end
mutual
def D.plain : D → Bool
  | .non | .bl _ | .int _ | .str _ => true
  | .tup xs | .lst xs => D.plains xs
  | _ => false
def D.plains : List D → Bool
  | [] => true
  | x :: xs => x.plain && D.plains xs
end
mutual
theorem dp_of {M : Addr → Prop} {H : Hp} : ∀ {v : V} {d : D}, Rep W M H v d → d.plain = true → Dp W.K H v d.py
  | _, _, .non, _ => by unfold D.py; exact .non
  | _, _, .bl b, _ => by unfold D.py; exact .bl b
  | _, _, .int i, _ => by unfold D.py; exact .int i
  | _, _, .str x, _ => by unfold D.py; exact .str x
  | _, _, .ty n, h => by simp [D.plain] at h
  | _, _, .tup hs r, h => by
    unfold D.py
    exact .tup hs (dps_of r (by simpa [D.plain] using h))
  | _, _, .lst hn hs r, h => by
    unfold D.py
    exact .lst (.inl (.inl hs)) (dps_of r (by simpa [D.plain] using h))
  | _, _, .st e, h => by simp [D.plain] at h
  | _, _, .obj a, h => by simp [D.plain] at h
  | _, _, .dct _ _, h => by simp [D.plain] at h
  | _, _, .ins _ _ _ _, h => by simp [D.plain] at h
  | _, _, .exc _ _ _ _, h => by simp [D.plain] at h
  | _, _, .xob0 _ _, h => by simp [D.plain] at h
  | _, _, .xob _ _ _ _ _ _, h => by simp [D.plain] at h
  | _, _, .dic _ _ _ _, h => by simp [D.plain] at h
theorem dps_of {M : Addr → Prop} {H : Hp} : ∀ {vs : List V} {ds : List D}, Reps W M H vs ds → D.plains ds = true → DpAll W.K H vs (D.pys ds)
  | _, _, .nil, _ => by unfold D.pys; exact .nil
  | _, _, .cons r t, h => by
    simp only [D.plains, Bool.and_eq_true] at h
    unfold D.pys
    exact .cons (dp_of r h.1) (dps_of t h.2)
end
/-- what == tells of two data -/
def D.eqv (x y : D) : Bool := PyData.eqv x.py y.py
def D.fine (x : D) : Bool := x.plain && SeqAt.shaped x.py
theorem rd_eqD {x y : D} (hx : x.fine = true) (hy : y.fine = true) (h : P (.bl (x.eqv y))) : RD W (rEqD W.K) x y P := fun M H v u w r1 r2 Q q => by
  have h1 := (Bool.and_eq_true_iff.mp hx)
  have h2 := (Bool.and_eq_true_iff.mp hy)
  exact ⟨_, _, dp_of r1 h1.1, dp_of r2 h2.1, h1.2, h2.2, q _ _ H w.g (Keep.refl H) (.bl _) h⟩
theorem rd_neD {x y : D} (hx : x.fine = true) (hy : y.fine = true) (h : P (.bl (!x.eqv y))) : RD W (rNeD W.K) x y P := fun M H v u w r1 r2 Q q => by
  have h1 := (Bool.and_eq_true_iff.mp hx)
  have h2 := (Bool.and_eq_true_iff.mp hy)
  exact ⟨_, _, dp_of r1 h1.1, dp_of r2 h2.1, h1.2, h2.2, q _ _ H w.g (Keep.refl H) (.bl _) h⟩
theorem eqvI (i j : Int) : D.eqv (.int i) (.int j) = decide (i = j) := by
  show PyData.eqv (D.py (.int i)) (D.py (.int j)) = _
  simp only [D.py, PyData.eqv]
  rfl
theorem fineI (i : Int) : D.fine (.int i) = true := by
  simp [D.fine, D.plain, D.py, SeqAt.shaped, PyData.canLay0, PyData.depth]
theorem rd_eqI {i j : Int} (h : P (.bl (decide (i = j)))) : RD W (rEqD W.K) (.int i) (.int j) P := rd_eqD (fineI i) (fineI j) (by rw [eqvI]; exact h)
theorem rd_neI {i j : Int} (h : P (.bl (!decide (i = j)))) : RD W (rNeD W.K) (.int i) (.int j) P := rd_neD (fineI i) (fineI j) (by rw [eqvI]; exact h)
end
end PD
namespace PD
open PySem PySem.Spec PyProof.Rows L2
open RZ (iZipA ItzT)
structure Ent (W : Wd) (M0 : Addr → Prop) (H0 : Hp) (M : Addr → Prop) (H : Hp) : Prop where
  k : Keep W H0 H
  m : ∀ a, M0 a → M a
  new : ∀ a, M a → ¬ M0 a → H0 a = none
/-- an exception by its class and what its own dict holds -/
abbrev XV := Addr × List (Str × D)
def XRep (W : Wd) (M : Addr → Prop) (H : Hp) (cls : Value) (d : Option Addr) (x : XV) : Prop := cls = .ref x.1 ∧ match d with
  | none => x.2 = []
  | some dx => ∃ fs : List (Str × V), ¬ M dx ∧ H dx = some (.xd fs) ∧ fs.map (·.1) = x.2.map (·.1) ∧ Reps W M H (fs.map (·.2)) (x.2.map (·.2))
abbrev WF : WX := fun _ _ _ _ => False
abbrev XN : XV → DS → Prop := fun _ _ => False
structure Outs (W : Wd) (Wx : WX) (M0 : Addr → Prop) (H0 : Hp) (N : DS → Prop) (R : D → Prop) (B C : DS → Prop) (X : XV → DS → Prop) (E : Ends) : Prop where
  nx : ∀ M σ δ H, Pre W M δ σ H → Ent W M0 H0 M H → N δ → E.nx σ H
  rt : ∀ v d H, StOk W H → Keep W H0 H → Rep W M0 H v d → R d → E.rt v H
  bk : ∀ M σ δ H, Pre W M δ σ H → Ent W M0 H0 M H → B δ → E.bk σ H
  ct : ∀ M σ δ H, Pre W M δ σ H → Ent W M0 H0 M H → C δ → E.ct σ H
  xw : ∀ M σ δ H cls d x, Pre W M δ σ H → Ent W M0 H0 M H → XRep W M H cls d x → X x δ → Wx cls d σ H
def SX (W : Wd) (Wx : WX) (ts : TS) (δ : DS) (N : DS → Prop) (R : D → Prop) (B C : DS → Prop) (X : XV → DS → Prop) : Prop :=
  ∀ (M0 : Addr → Prop) (H0 : Hp) (M : Addr → Prop) (σ : L2.St) (H : Hp) (E : Ends), Pre W M δ σ H → Ent W M0 H0 M H → Outs W Wx M0 H0 N R B C X E → ts E σ H
abbrev SD (W : Wd) (ts : TS) (δ : DS) (N : DS → Prop) (R : D → Prop) (B C : DS → Prop) : Prop := SX W WF ts δ N R B C XN
theorem Ent.next {W : Wd} {M0 M : Addr → Prop} {H0 H H' : Hp} (e : Ent W M0 H0 M H) (k : Keep W H H') : Ent W M0 H0 M H' := ⟨e.k.trans k, e.m, e.new⟩
section
variable {W : Wd} {Wx : WX} {X : XV → DS → Prop} {δ : DS} {N : DS → Prop} {R : D → Prop} {B C : DS → Prop} {te tl : TE} {t : TT} {ts tu : TS} {g : TG}
theorem XRep.anti {W : Wd} {M M' : Addr → Prop} {H : Hp} {cls : Value} {d : Option Addr} {x : XV} (m : ∀ a, M' a → M a) (h : XRep W M H cls d x) : XRep W M' H cls d x := by
  obtain ⟨h1, h2⟩ := h
  refine ⟨h1, ?_⟩
  cases d with
  | none => exact h2
  | some dx =>
    obtain ⟨fs, h6, h3, h5, h4⟩ := h2
    exact ⟨fs, fun z => h6 (m _ z), h3, h5, h4.anti m⟩
theorem sd_seq (h : SX W Wx ts δ (fun δ' => SX W Wx tu δ' N R B C X) R B C X) : SX W Wx (tSeq ts tu) δ N R B C X := fun M0 H0 M σ H E p e o =>
  h M0 H0 M σ H { E with nx := tu E } p e ⟨fun M' σ' δ' H' p' e' hN => hN M0 H0 M' σ' H' E p' e' o, o.rt, o.bk, o.ct, o.xw⟩
theorem sd_next (h : N δ) : SX W Wx tNext δ N R B C X := fun M0 H0 M σ H E p e o => o.nx M σ δ H p e h
theorem sd_asg {i : Nat} (h : EvD W te δ fun d => N (δ.set i (some d))) : SX W Wx (tAsg te (gName i)) δ N R B C X := fun M0 H0 M σ H E p e o =>
  h M σ H p _ fun v d H1 g1 k1 r1 h1 => o.nx M _ _ H1 ⟨p.wf.next g1 k1, (p.next g1 k1).sl.set i r1⟩ (e.next k1) h1
theorem sd_ret (h : EvD W te δ R) : SX W Wx (tRet te) δ N R B C X := fun M0 H0 M σ H E p e o =>
  h M σ H p _ fun v d H1 g1 k1 r1 h1 => o.rt v d H1 g1 (e.k.trans k1) (r1.anti e.m) h1
theorem sd_retN (h : R .non) : SX W Wx tRetN δ N R B C X := fun M0 H0 M σ H E p e o => o.rt .non .non H p.wf.g e.k .non h
theorem sd_drop (h : EvD W te δ fun _ => N δ) : SX W Wx (tDrop te) δ N R B C X := fun M0 H0 M σ H E p e o =>
  h M σ H p _ fun v d H1 g1 k1 r1 h1 => o.nx M σ δ H1 (p.next g1 k1) (e.next k1) h1
theorem sd_if (h : EvT W t δ fun b => (b = true → SX W Wx ts δ N R B C X) ∧ (b = false → SX W Wx tu δ N R B C X)) : SX W Wx (tIfS t ts tu) δ N R B C X := fun M0 H0 M σ H E p e o =>
  h M σ H p _ fun b H1 g1 k1 h1 => by
    cases b with
    | true =>
      rw [if_pos rfl]
      exact h1.1 rfl M0 H0 M σ H1 E (p.next g1 k1) (e.next k1) o
    | false =>
      rw [if_neg Bool.false_ne_true]
      exact h1.2 rfl M0 H0 M σ H1 E (p.next g1 k1) (e.next k1) o
theorem sd_mono {N' : DS → Prop} {R' : D → Prop} (h : SX W Wx ts δ N R B C X) (hN : ∀ δ', N δ' → N' δ') (hR : ∀ d, R d → R' d) : SX W Wx ts δ N' R' B C X := fun M0 H0 M σ H E p e o =>
  h M0 H0 M σ H E p e ⟨fun M' σ' δ' H' p' e' x => o.nx M' σ' δ' H' p' e' (hN _ x), fun v d H' g k r x => o.rt v d H' g k r (hR _ x), o.bk, o.ct, o.xw⟩
/-- a word between a statement and what follows it -/
theorem sd_cut (Mid : DS → Prop) (h : SX W Wx ts δ Mid R B C X) (k : ∀ δ', Mid δ' → SX W Wx tu δ' N R B C X) : SX W Wx (tSeq ts tu) δ N R B C X := sd_seq (sd_mono h k fun _ x => x)
/-- a, b = x, y -/
theorem sd_par {i j : Nat} {ta : TA} (h : EvA W ta δ fun xs => ∃ x y, xs = [x, y] ∧ N ((δ.set i (some x)).set j (some y))) : SX W Wx (tPar i j ta) δ N R B C X := fun M0 H0 M σ H E p e o =>
  h M σ H p _ fun vs xs H1 g1 k1 r1 h1 => by
    obtain ⟨x, y, rfl, hN⟩ := h1
    cases r1 with
    | cons r1 r2 =>
      cases r2 with
      | cons r2 r3 =>
        cases r3
        exact ⟨_, _, rfl, o.nx M _ _ H1 ⟨p.wf.next g1 k1, ((p.next g1 k1).sl.set i r1).set j r2⟩ (e.next k1) hN⟩
def GD (W : Wd) (g : TG) (d : D) (δ : DS) (js : List Nat) (Nx : DS → Prop) : Prop := ∀ (M : Addr → Prop) (σ : L2.St) (H : Hp) (v : V), Pre W M δ σ H → Rep W M H v d → ∀ Q : L2.St → Hp → Prop,
  (∀ σ' δ', Pre W M δ' σ' H → Nx δ' → (∀ vs : List Nat, (∀ j ∈ js, j ∈ vs) → wipe σ' vs = wipe σ vs) → Q σ' H) → g v σ H Q
theorem wipe_get (σ : L2.St) : ∀ (vs : List Nat) (i : Nat), (wipe σ vs)[i]? = if i ∈ vs ∧ i < σ.length then some none else σ[i]?
  | [], i => by
    unfold wipe
    rw [if_neg (by simp)]
  | v :: vs, i => by
    unfold wipe
    rw [List.getElem?_set, wipe_length, wipe_get σ vs i]
    by_cases hv : v = i
    · subst hv
      by_cases hl : v < σ.length
      · rw [if_pos rfl, if_pos hl, if_pos ⟨by simp, hl⟩]
      · rw [if_pos rfl, if_neg hl, if_neg (fun z => hl z.2)]
        exact (List.getElem?_eq_none (by omega)).symm
    · rw [if_neg hv]
      have e : (i ∈ v :: vs ∧ i < σ.length) ↔ (i ∈ vs ∧ i < σ.length) := by
        constructor
        · rintro ⟨h1, h2⟩
          rcases List.mem_cons.mp h1 with z | z
          · exact absurd z.symm hv
          · exact ⟨z, h2⟩
        · rintro ⟨h1, h2⟩
          exact ⟨List.mem_cons_of_mem _ h1, h2⟩
      by_cases hc : i ∈ vs ∧ i < σ.length
      · rw [if_pos hc, if_pos (e.mpr hc)]
      · rw [if_neg hc, if_neg (fun z => hc (e.mp z))]
theorem wipe_set {σ : L2.St} {j : Nat} {x : Option V} {vs : List Nat} (h : j ∈ vs) : wipe (σ.set j x) vs = wipe σ vs := by
  apply List.ext_getElem?
  intro i
  rw [wipe_get, wipe_get, List.length_set]
  by_cases hc : i ∈ vs ∧ i < σ.length
  · rw [if_pos hc, if_pos hc]
  · rw [if_neg hc, if_neg hc, List.getElem?_set]
    by_cases hj : j = i
    · subst hj
      have hl : ¬ j < σ.length := fun z => hc ⟨h, z⟩
      rw [if_pos rfl, if_neg hl]
      exact (List.getElem?_eq_none (by omega)).symm
    · rw [if_neg hj]
theorem wipe_wipe (σ : L2.St) (vs : List Nat) : wipe (wipe σ vs) vs = wipe σ vs := by
  apply List.ext_getElem?
  intro i
  rw [wipe_get, wipe_get, wipe_length]
  by_cases hc : i ∈ vs ∧ i < σ.length
  · rw [if_pos hc, if_pos hc]
  · rw [if_neg hc, if_neg hc]
theorem gd_name {j : Nat} {d : D} {Nx : DS → Prop} (h : Nx (δ.set j (some d))) : GD W (gName j) d δ [j] Nx := fun M σ H v p r Q q =>
  q _ _ ⟨p.wf, p.sl.set j r⟩ h fun vs hv => wipe_set (hv j (List.mem_singleton.mpr rfl))
theorem gd_tup2 {g1 g2 : TG} {x y : D} {j1 j2 : List Nat} {Nx : DS → Prop} (h : GD W g1 x δ j1 fun δ1 => GD W g2 y δ1 j2 Nx) : GD W (gTup W.K 2 (gCons g1 (gCons g2 gNil))) (.tup [x, y]) δ (j1 ++ j2) Nx := fun M σ H v p r Q q => by
  cases r with
  | @tup a vs ds hs hr =>
    cases hr with
    | cons r1 r2 =>
      cases r2 with
      | cons r2 r3 =>
        cases r3
        refine ⟨a, _, rfl, hs, rfl, _, _, rfl, h M σ H _ p r1 _ fun σ1 δ1 p1 h1 w1 => ⟨_, _, rfl, h1 M σ1 H _ p1 r2 _ fun σ2 δ2 p2 h2 w2 => ⟨rfl, q σ2 δ2 p2 h2 fun vs hv => ?_⟩⟩⟩
        rw [w2 vs fun j hj => hv j (List.mem_append_right _ hj), w1 vs fun j hj => hv j (List.mem_append_left _ hj)]
/-- a target that is a tuple: a, b = e -/
theorem sd_asgG {js : List Nat} (h : EvD W te δ fun d => GD W g d δ js N) : SX W Wx (tAsg te g) δ N R B C X := fun M0 H0 M σ H E p e o =>
  h M σ H p _ fun v d H1 g1 k1 r1 h1 => h1 M σ H1 v (p.next g1 k1) r1 _ fun σ' δ' p' hN _ => o.nx M σ' δ' H1 p' (e.next k1) hN
theorem sd_while {tc : TT} (Inv : DS → Prop) (μ : DS → Nat) (h0 : Inv δ) (h : ∀ δ', Inv δ' → EvT W tc δ' fun b => (b = true → SX W Wx ts δ' (fun δ2 => Inv δ2 ∧ μ δ2 < μ δ') R N (fun δ2 => Inv δ2 ∧ μ δ2 < μ δ') X) ∧ (b = false → N δ')) : SX W Wx (tWhile tc ts) δ N R B C X := fun M0 H0 M σ H E p e o => by
  refine ⟨fun m σ' H' => ∃ M' δ', Pre W M' δ' σ' H' ∧ Ent W M0 H0 M' H' ∧ Inv δ' ∧ m = μ δ', ⟨_, M, δ, p, e, h0, rfl⟩, ?_⟩
  rintro m σ' H' ⟨M', δ', p', e', i', rfl⟩
  refine h δ' i' M' σ' H' p' _ fun b H1 g1 k1 h1 => ?_
  cases b with
  | true =>
    rw [if_pos rfl]
    refine ⟨fun σ2 H2 => ∃ M2 δ2, Pre W M2 δ2 σ2 H2 ∧ Ent W M0 H0 M2 H2 ∧ Inv δ2 ∧ μ δ2 < μ δ', ?_, ?_⟩
    · rintro σ2 H2 ⟨M2, δ2, p2, e2, i2, l2⟩
      exact ⟨_, l2, M2, δ2, p2, e2, i2, rfl⟩
    · exact h1.1 rfl M0 H0 M' σ' H1 _ (p'.next g1 k1) (e'.next k1) ⟨fun M2 σ2 δ2 H2 p2 e2 x => ⟨M2, δ2, p2, e2, x.1, x.2⟩, o.rt, o.nx, fun M2 σ2 δ2 H2 p2 e2 x => ⟨M2, δ2, p2, e2, x.1, x.2⟩, o.xw⟩
  | false =>
    rw [if_neg Bool.false_ne_true]
    exact o.nx M' σ' δ' H1 (p'.next g1 k1) (e'.next k1) (h1.2 rfl)
/-- the iterator J gives the items ds, one a turn, whatever is laid meanwhile -/
def Src (W : Wd) (M : Addr → Prop) (J : It) (H1 : Hp) (ds : List D) : Prop := ∀ (M' : Addr → Prop), (∀ a, M a → M' a) → (∀ a, M' a → ¬ M a → H1 a = none) → ∀ (i : Nat) (H2 : Hp), KeepM W M H1 H2 → StOk W H2 →
  (i = ds.length → J.stop i H2) ∧ ∀ d, ds[i]? = some d → J.go i H2 ∧ ∀ x H3, J.yld i H2 x H3 → StOk W H3 ∧ Keep W H2 H3 ∧ Rep W M' H3 x d
def IterD (W : Wd) (wi : TI) (δ : DS) (P : List D → Prop) : Prop := ∀ (M : Addr → Prop) (σ : L2.St) (H : Hp), Pre W M δ σ H → ∀ R : It → Hp → Prop,
  (∀ (J : It) (H1 : Hp) (ds : List D), StOk W H1 → Keep W H H1 → P ds → Src W M J H1 ds → R J H1) → wi σ H R
theorem src_tup {M : Addr → Prop} {H1 : Hp} {a : Addr} {vs : List V} {ds : List D} (w : Wf W M H1) (hs : SqT W.K H1 a vs) (hr : Reps W M H1 vs ds) : Src W M (Itt W.K a) H1 ds := fun M' hm hn i H2 k g => by
  have wg : Wg W M' H1 := ⟨w.g, fun b e => hm b (w.sm b e)⟩
  have hs2 := sqT_keepM wg (k.mono hm) hs
  have hr2 : Reps W M' H2 vs ds := (hr.more hn).keepM wg (k.mono hm)
  refine ⟨fun hl => ⟨vs, hs2, by rw [hr2.length]; exact Nat.le_of_eq hl.symm⟩, fun d hd => ?_⟩
  obtain ⟨v, hv, rv⟩ := hr2.get hd
  refine ⟨⟨vs, v, hs2, hv⟩, fun x H3 y => ?_⟩
  obtain ⟨rfl, y2⟩ := y
  have e : vs[i]? = some x := y2 vs hs2
  rw [hv] at e
  cases e
  exact ⟨g, Keep.refl _, rv⟩
theorem src_lst {M : Addr → Prop} {H1 : Hp} {a : Addr} {vs : List V} {ds : List D} (w : Wf W M H1) (na : ¬ M a) (hs : H1 a = some (.lst vs)) (hr : Reps W M H1 vs ds) : Src W M (Itl W.K a) H1 ds := fun M' hm hn i H2 k g => by
  have wg : Wg W M' H1 := ⟨w.g, fun b e => hm b (w.sm b e)⟩
  have na' : ¬ M' a := fun z => by
    rw [hn a z na] at hs; cases hs
  have hs2 : SqL W.K H2 a vs := .inl (.inl (rdL_keepM wg (k.mono hm) na' hs))
  have hr2 : Reps W M' H2 vs ds := (hr.more hn).keepM wg (k.mono hm)
  refine ⟨fun hl => ⟨vs, hs2, by rw [hr2.length]; exact Nat.le_of_eq hl.symm⟩, fun d hd => ?_⟩
  obtain ⟨v, hv, rv⟩ := hr2.get hd
  refine ⟨⟨vs, v, hs2, hv⟩, fun x H3 y => ?_⟩
  obtain ⟨rfl, y2⟩ := y
  have e : vs[i]? = some x := y2 vs hs2
  rw [hv] at e
  cases e
  exact ⟨g, Keep.refl _, rv⟩
theorem it_tup {P : List D → Prop} (h : EvD W tl δ fun x => ∃ ds, x = .tup ds ∧ P ds) : IterD W (iTup W.K tl) δ P := fun M σ H p R q => h M σ H p _ fun v d H1 g1 k1 r1 h1 => by
  obtain ⟨ds, rfl, hP⟩ := h1
  cases r1 with
  | tup hs hr => exact ⟨_, rfl, ⟨_, hs⟩, q _ H1 ds g1 k1 hP (src_tup (p.wf.next g1 k1) hs hr)⟩
theorem it_lst {P : List D → Prop} (h : EvD W tl δ fun x => ∃ ds, x = .lst ds ∧ P ds) : IterD W (iList W.K tl) δ P := fun M σ H p R q => h M σ H p _ fun v d H1 g1 k1 r1 h1 => by
  obtain ⟨ds, rfl, hP⟩ := h1
  cases r1 with
  | lst hn hs hr => exact ⟨_, rfl, ⟨_, .inl (.inl hs)⟩, q _ H1 ds g1 k1 hP (src_lst (p.wf.next g1 k1) hn hs hr)⟩
def iSeq (K : PySem.W.Frag) (tl : TE) : TI := fun σ H R => iList K tl σ H R ∨ iTup K tl σ H R
theorem pi_seq {X : Cx} {tg iter : Expr} {tl : TE} (h1 : PI X tg iter (iList X.K tl)) (h2 : PI X tg iter (iTup X.K tl)) : PI X tg iter (iSeq X.K tl) := ⟨fun pins s σ H R I h => by
  rcases h with h | h
  · exact h1.run pins s σ H R I h
  · exact h2.run pins s σ H R I h⟩
theorem it_seqT {P : List D → Prop} (h : EvD W tl δ fun x => ∃ ds, x = .tup ds ∧ P ds) : IterD W (iSeq W.K tl) δ P := fun M σ H p R q => .inr (it_tup h M σ H p R q)
theorem it_seqL {P : List D → Prop} (h : EvD W tl δ fun x => ∃ ds, x = .lst ds ∧ P ds) : IterD W (iSeq W.K tl) δ P := fun M σ H p R q => .inl (it_lst h M σ H p R q)
def rngD (lo : Int) (n : Nat) : List D := (List.range n).map fun (k : Nat) => .int (lo + (k : Int))
theorem rngD_length (lo : Int) (n : Nat) : (rngD lo n).length = n := by simp [rngD]
theorem rngD_get {lo : Int} {n i : Nat} {d : D} (h : (rngD lo n)[i]? = some d) : i < n ∧ d = .int (lo + (i : Int)) := by
  have hl : i < n := by
    have := (List.getElem?_eq_some_iff.mp h).1
    rw [rngD_length] at this
    exact this
  refine ⟨hl, ?_⟩
  unfold rngD at h
  rw [List.getElem?_map, List.getElem?_range hl] at h
  exact (Option.some.inj h).symm
theorem src_rng {M : Addr → Prop} {H1 : Hp} (lo : Int) (n : Nat) : Src W M (Itr lo n) H1 (rngD lo n) := fun M' hm hn i H2 k g => by
  refine ⟨fun hl => by rw [rngD_length] at hl; exact Nat.le_of_eq hl.symm, fun d hd => ?_⟩
  obtain ⟨hl, rfl⟩ := rngD_get hd
  refine ⟨hl, fun x H3 y => ?_⟩
  obtain ⟨rfl, rfl⟩ := y
  exact ⟨g, Keep.refl _, .int _⟩
theorem it_rng1 {P : List D → Prop} {ta : TA} (h : EvA W ta δ fun xs => ∃ n : Int, xs = [.int n] ∧ n < 2 ^ 62 ∧ -(2 ^ 62) ≤ n ∧ P (rngD 0 n.toNat)) : IterD W (iRng1 ta) δ P := fun M σ H p R q => h M σ H p _ fun vs ds H1 g1 k1 r1 h1 => by
  obtain ⟨n, rfl, h2, h3, hP⟩ := h1
  cases r1 with
  | cons r1 r2 =>
    cases r2
    cases r1
    exact ⟨n, rfl, h3, h2, q _ H1 _ g1 k1 hP (src_rng 0 _)⟩
def zipD (ds es : List D) : List D := List.zipWith (fun x y => .tup [x, y]) ds es
theorem zipD_get {ds es : List D} {i : Nat} {d : D} (h : (zipD ds es)[i]? = some d) : ∃ x y, ds[i]? = some x ∧ es[i]? = some y ∧ d = .tup [x, y] := by
  unfold zipD at h
  rw [List.getElem?_zipWith] at h
  cases hx : ds[i]? with
  | none => rw [hx] at h; simp at h
  | some x =>
    cases hy : es[i]? with
    | none => rw [hx, hy] at h; simp at h
    | some y =>
      rw [hx, hy] at h
      exact ⟨x, y, rfl, rfl, (Option.some.inj h).symm⟩
theorem sd_for {wi : TI} (h : IterD W wi δ fun ds => ∃ Inv : Nat → DS → Prop, Inv 0 δ ∧ (∀ i d δ', ds[i]? = some d → Inv i δ' → ∃ js, GD W g d δ' js fun δ2 => SX W Wx ts δ2 (Inv (i + 1)) R N (Inv (i + 1)) X) ∧ ∀ δ', Inv ds.length δ' → N δ') : SX W Wx (tFor wi g ts) δ N R B C X := fun M0 H0 M σ H E p e o =>
  h M σ H p _ fun J H1 ds g1 k1 ⟨I, i0, it, ie⟩ src => by
    refine ⟨fun i m σ' H' => m = ds.length - i ∧ i ≤ ds.length ∧ ∃ M' δ', Pre W M' δ' σ' H' ∧ Ent W M H1 M' H' ∧ I i δ', ⟨_, rfl, Nat.zero_le _, M, δ, p.next g1 k1, ⟨Keep.refl _, fun _ x => x, fun a x y => absurd x y⟩, i0⟩, ?_⟩
    rintro i m σ' H' ⟨rfl, hi, M', δ', p', e', hI⟩
    have base : ∀ {M2 : Addr → Prop} {H2 : Hp}, Ent W M H1 M2 H2 → Ent W M0 H0 M2 H2 := fun {M2 H2} x => ⟨(e.k.trans k1).trans x.k, fun a ha => x.m a (e.m a ha), fun a ha hn => by
      by_cases hM : M a
      · exact e.new a hM hn
      · have h1 := x.new a ha hM
        cases h0 : H0 a with
        | none => rfl
        | some oo =>
          have ns : W.s ≠ some a := fun z => hM (p.wf.sm a z)
          rw [k1 a oo ns (e.k a oo ns h0)] at h1
          cases h1⟩
    obtain ⟨s1, s2⟩ := src M' e'.m e'.new i H' e'.k.toM p'.wf.g
    by_cases hlt : i < ds.length
    · obtain ⟨hgo, hy⟩ := s2 ds[i] (List.getElem?_eq_getElem hlt)
      refine .inr ⟨hgo, fun σ2 H2 => ∃ M2 δ2, Pre W M2 δ2 σ2 H2 ∧ Ent W M H1 M2 H2 ∧ I (i + 1) δ2, ?_, fun x H3 y => ?_⟩
      · rintro σ2 H2 ⟨M2, δ2, q1, q2, q3⟩
        exact ⟨_, by omega, rfl, hlt, M2, δ2, q1, q2, q3⟩
      · obtain ⟨g3, k3, r3⟩ := hy x H3 y
        obtain ⟨js, hg⟩ := it i ds[i] δ' (List.getElem?_eq_getElem hlt) hI
        refine hg M' σ' H3 x (p'.next g3 k3) r3 _ fun σ4 δ4 p4 hb _ => ?_
        refine hb M H1 M' σ4 H3 _ p4 (e'.next k3) ⟨fun M5 σ5 δ5 H5 p5 e5 x5 => ⟨M5, δ5, p5, e5, x5⟩, fun v d H5 g5 k5 r5 x5 => o.rt v d H5 g5 ((e.k.trans k1).trans k5) (r5.anti e.m) x5, fun M5 σ5 δ5 H5 p5 e5 x5 => o.nx M5 σ5 δ5 H5 p5 (base e5) x5, fun M5 σ5 δ5 H5 p5 e5 x5 => ⟨M5, δ5, p5, e5, x5⟩, fun M5 σ5 δ5 H5 cls d5 x5 p5 e5 r5 h5 => o.xw M5 σ5 δ5 H5 cls d5 x5 p5 (base e5) r5 h5⟩
    · have ee : i = ds.length := by omega
      refine .inl ⟨s1 ee, o.nx M' σ' δ' H' p' (base e') (ie δ' ?_)⟩
      rw [← ee]
      exact hI
/-- what gives a list that was not there before -/
def EvF (W : Wd) (te : TE) (δ : DS) (P : List D → Prop) : Prop := ∀ (M : Addr → Prop) (σ : L2.St) (H : Hp), Pre W M δ σ H → ∀ Q : VK,
  (∀ (a : Addr) (vs : List V) (ds : List D) (H' : Hp), StOk W H' → Keep W H H' → H a = none → ¬ M a → H' a = some (.lst vs) → Reps W (fun b => M b ∨ b = a) H' vs ds → P ds → Q (.ref a) H') → te σ H Q
theorem ev_ofF {P : D → Prop} (h : EvF W te δ fun ds => P (.lst ds)) : EvD W te δ P := fun M σ H p Q q => h M σ H p Q fun a vs ds H' g k hn nm hv r hP => q _ (.lst ds) H' g k (.lst nm hv (r.anti fun _ x => .inl x)) hP
theorem ev_lcF {wi : TI} {tt : TT} {vs : List Nat} {P : List D → Prop} (h : IterD W wi δ fun ds => ds.length ≤ 100000 ∧ ∃ Inv : Nat → List D → Prop, Inv 0 [] ∧
    (∀ i d acc, ds[i]? = some d → Inv i acc → ∃ js, (∀ j ∈ js, j ∈ vs) ∧ GD W g d (wipeD δ vs) js fun δ2 => EvT W tt δ2 fun b => (b = true → EvD W te δ2 fun y => Inv (i + 1) (acc ++ [y])) ∧ (b = false → Inv (i + 1) acc)) ∧ ∀ acc, Inv ds.length acc → P acc) :
    EvF W (tLc wi g tt te vs) δ P := fun M σ H p Q q =>
  h M σ H p _ fun J H1 ds g1 k1 ⟨hlen, I, i0, it, ie⟩ src => by
    intro Dl hD
    have p1 := p.next g1 k1
    let M' : Addr → Prop := fun a => M a ∨ a = Dl
    have hm : ∀ a, M a → M' a := fun a x => .inl x
    have hn : ∀ a, M' a → ¬ M a → H1 a = none := fun a x y => by
      rcases x with x | x
      · exact absurd x y
      · rw [x]; exact hD
    have hns : W.s ≠ some Dl := fun z => by
      obtain ⟨ns, i, c, m, q, _⟩ := g1 Dl z
      rw [hD] at q
      cases q
    have notM : ¬ M Dl := fun m => by
      obtain ⟨o, ho⟩ := p1.wf.dom Dl m
      rw [hD] at ho
      cases ho
    refine ⟨fun i m H' => m = ds.length - i ∧ i ≤ ds.length ∧ ∃ acc vs', Keep W H1 H' ∧ StOk W H' ∧ H' Dl = some (.lst vs') ∧ Reps W M' H' vs' acc ∧ acc.length ≤ i ∧ I i acc, ⟨_, rfl, Nat.zero_le _, [], [], Keep.new hD, g1.new hD, upd_same, .nil, Nat.zero_le _, i0⟩, ?_⟩
    rintro i m H' ⟨rfl, hi, acc, vs', kH, gH, eD, rA, hal, hI⟩
    have wf' : Wf W M' H' := ⟨gH, fun a z => .inl (p.wf.sm a z), fun a x => by
      rcases x with x | x
      · exact (p1.wf.next gH kH).dom a x
      · rw [x]; exact ⟨_, eD⟩⟩
    obtain ⟨s1, s2⟩ := src M' hm hn i H' kH.toM gH
    by_cases hlt : i < ds.length
    · obtain ⟨hgo, hy⟩ := s2 ds[i] (List.getElem?_eq_getElem hlt)
      refine .inr ⟨hgo, fun H2 => ∃ acc vs', Keep W H1 H2 ∧ StOk W H2 ∧ H2 Dl = some (.lst vs') ∧ Reps W M' H2 vs' acc ∧ acc.length ≤ i + 1 ∧ I (i + 1) acc, ?_, fun x H3 y => ?_⟩
      · rintro H2 ⟨acc2, vs2, z⟩
        exact ⟨_, by omega, rfl, hlt, acc2, vs2, z⟩
      · obtain ⟨g3, k3, r3⟩ := hy x H3 y
        have wf3 := wf'.next g3 k3
        obtain ⟨js, hjs, hg⟩ := it i ds[i] acc (List.getElem?_eq_getElem hlt) hI
        have sl : Slots W M' H3 (wipe σ vs) (wipeD δ vs) := by
          have s0 : Slots W M H1 (wipe σ vs) (wipeD δ vs) := p1.sl.wipe vs
          have wg : Wg W M' H1 := ⟨g1, fun a z => .inl (p.wf.sm a z)⟩
          exact ⟨s0.len, fun j d hd => by
            obtain ⟨v, a1, a2⟩ := s0.get j d hd
            exact ⟨v, a1, (a2.more hn).keepG wg (kH.trans k3)⟩⟩
        refine hg M' (wipe σ vs) H3 x ⟨wf3, sl⟩ r3 _ fun σ4 δ4 p4 hb hw => ?_
        refine ⟨by rw [hw vs hjs, wipe_wipe], ?_⟩
        refine hb M' σ4 H3 p4 _ fun b H5 g5 k5 h5 => ?_
        have p5 := p4.next g5 k5
        have eD5 : H5 Dl = some (.lst vs') := k5 Dl _ hns (k3 Dl _ hns eD)
        have rA5 : Reps W M' H5 vs' acc := (rA.keep wf' k3).keep wf3 k5
        cases b with
        | true =>
          rw [if_pos rfl]
          refine h5.1 rfl M' σ4 H5 p5 _ fun v d H6 g6 k6 r6 h6 => ?_
          have eD6 : H6 Dl = some (.lst vs') := k6 Dl _ hns eD5
          have kU : ∀ a o, a ≠ Dl → H6 a = some o → (upd H6 Dl (.lst (vs' ++ [v]))) a = some o := fun a o na ho => by rw [upd_ne na]; exact ho
          have gU : StOk W (upd H6 Dl (.lst (vs' ++ [v]))) := fun s hs => by
            obtain ⟨ns, i', c, m, q1, q2, q3, q4⟩ := g6 s hs
            refine ⟨ns, i', c, m, kU s _ (fun z => hns (z ▸ hs)) q1, q2, kU W.b _ (fun z => ?_) q3, q4⟩
            obtain ⟨ns0, i0', c0, m0, q10, q20, q30, q40⟩ := g1 s hs
            rw [z, hD] at q30
            cases q30
          have kX : ∀ {H7 : Hp}, Keep W H1 H7 → Keep W H1 (upd H7 Dl (.lst (vs' ++ [v]))) := fun kk a o ns ho => by
            rw [upd_ne (ne_of_none ho hD)]
            exact kk a o ns ho
          refine ⟨vs', eD6, ?_, acc ++ [d], vs' ++ [v], kX (((kH.trans k3).trans k5).trans k6), gU, upd_same, ?_, ?_, h6⟩
          · rw [(rA5).length]
            exact Nat.lt_of_lt_of_le (Nat.lt_of_le_of_lt hal (Nat.lt_of_lt_of_le hlt hlen)) (by decide)
          · exact ((rA5.keep p5.wf k6).append (.cons r6 .nil)).upd (rdT_lst eD6) (.inr rfl)
          · simp; omega
        | false =>
          rw [if_neg Bool.false_ne_true]
          exact ⟨acc, vs', ((kH.trans k3).trans k5), g5, eD5, rA5, by omega, h5.2 rfl⟩
    · have ee : i = ds.length := by omega
      refine .inl ⟨s1 ee, q Dl vs' acc H' gH (k1.trans kH) ?_ notM eD rA (ie acc (ee ▸ hI))⟩
      cases z : H Dl with
      | none => rfl
      | some oo =>
        rw [k1 Dl oo hns z] at hD
        cases hD
theorem ev_lc {wi : TI} {tt : TT} {vs : List Nat} {P : D → Prop} (h : IterD W wi δ fun ds => ds.length ≤ 100000 ∧ ∃ Inv : Nat → List D → Prop, Inv 0 [] ∧
    (∀ i d acc, ds[i]? = some d → Inv i acc → ∃ js, (∀ j ∈ js, j ∈ vs) ∧ GD W g d (wipeD δ vs) js fun δ2 => EvT W tt δ2 fun b => (b = true → EvD W te δ2 fun y => Inv (i + 1) (acc ++ [y])) ∧ (b = false → Inv (i + 1) acc)) ∧ ∀ acc, Inv ds.length acc → P (.lst acc)) :
    EvD W (tLc wi g tt te vs) δ P := ev_ofF (ev_lcF h)
end
end PD
namespace PD
open PySem PySem.Spec PyProof.Rows L2
open RZ (iZipA ItzT)
abbrev fr (p : Fr) : D := .tup [.int p.1, .int p.2]
def Sz (n : Nat) (p : Fr) : Prop := p.1.natAbs < 2 ^ n ∧ p.2.natAbs < 2 ^ n
abbrev un (l : List Fr) : D := .tup (l.map fr)
/-- an item of a written list, whichever -/
theorem rd_ixLm {W : Wd} {P : D → Prop} {r : Int} {ds : List D} (h0 : 0 ≤ r) (h1 : r < ds.length) (hP : ∀ d ∈ ds, P d) : RD W (rIx W.K) (.lst ds) (.int r) P := by
  obtain ⟨j, rfl⟩ := Int.eq_ofNat_of_zero_le h0
  have hj : j < ds.length := by omega
  exact rd_ixL (j := j) rfl (List.getElem?_eq_getElem hj) (hP _ (List.getElem_mem hj))
theorem cpow_ok {i j : Int} (h : (decide (0 ≤ j) && (decide (j ≤ 1000000) && decide (i.natAbs < 18446744073709551616))) = true) : CPow i j := by
  rw [Bool.and_eq_true, Bool.and_eq_true] at h
  exact ⟨of_decide_eq_true h.1, of_decide_eq_true h.2.1, of_decide_eq_true h.2.2⟩
theorem sz40 {r : Int} (h : r.natAbs < 10000000000000000000000000000000000000000) : r.natAbs < 2 ^ 134 := Nat.lt_trans h (by decide)
def D.toI : D → Int
  | .int i => i
  | _ => 0
def isFr : D → Bool
  | .tup [a, b] => a.isInt && b.isInt && decide (1 ≤ b.toI) && decide (gcdI a.toI b.toI = 1)
  | _ => false
theorem isFr_ints {i j : Int} (h : 1 ≤ j) : isFr (.tup [.int i, .int j]) = decide (((Nat.gcd i.natAbs j.natAbs : Nat) : Int) = 1) := by
  show (true && true && decide (1 ≤ j) && decide (gcdI i j = 1)) = _
  rw [decide_eq_true h, Bool.true_and, Bool.true_and, Bool.true_and]
  exact decide_eq_decide.mpr ⟨fun z => by unfold gcdI at z; omega, fun z => by unfold gcdI; omega⟩
theorem isFr_low {i j : Int} (h : ¬ 1 ≤ j) : isFr (.tup [.int i, .int j]) = false := by
  show (true && true && decide (1 ≤ j) && decide (gcdI i j = 1)) = _
  rw [decide_eq_false h, Bool.and_false, Bool.false_and]
theorem isFr_fr {p : Fr} (h : IsF p) : isFr (fr p) = true := by
  show (true && true && decide (1 ≤ p.2) && decide (gcdI p.1 p.2 = 1)) = true
  rw [decide_eq_true h.1, decide_eq_true h.2]
  rfl
theorem isInt_of {x : D} (h : x.isInt = true) : ∃ i, x = .int i := by
  cases x <;> first | cases h; done | exact ⟨_, rfl⟩
def isAny : D → Bool
  | .tup xs => decide (1 ≤ xs.length) && decide (xs.length ≤ 3) && xs.all isFr
  | _ => false
def D.len : D → Int
  | .tup xs => xs.length
  | _ => -1
mutual
/-- no int within is great -/
def D.small : D → Bool
  | .int i => decide (i.natAbs < 2 ^ 8000)
  | .tup xs | .lst xs => D.smalls xs
  | _ => true
def D.smalls : List D → Bool
  | [] => true
  | x :: xs => x.small && D.smalls xs
end
theorem smalls_mem {xs : List D} (h : D.smalls xs = true) {x : D} (hx : x ∈ xs) : x.small = true := by
  induction xs with
  | nil => cases hx
  | cons y ys ih =>
    simp only [D.smalls, Bool.and_eq_true] at h
    rcases List.mem_cons.mp hx with rfl | hx
    · exact h.1
    · exact ih h.2 hx
theorem fr_small {p : Fr} (h : Sz 8000 p) : D.small (fr p) = true := by
  simp only [D.small, D.smalls, Bool.and_true, Bool.and_eq_true]
  exact ⟨decide_eq_true h.1, decide_eq_true h.2⟩
def isUn (n : Int) : D → Bool
  | .tup xs => decide ((xs.length : Int) = n) && xs.all isFr
  | _ => false
theorem isUn_un {l : List Fr} {n : Int} (h1 : (l.length : Int) = n) (h : ∀ p ∈ l, IsF p) : isUn n (un l) = true := by
  show (decide (((l.map fr).length : Int) = n) && (l.map fr).all isFr) = true
  rw [List.length_map, decide_eq_true h1, List.all_map]
  simp only [Bool.true_and, List.all_eq_true]
  exact fun p hp => isFr_fr (h p hp)
theorem eqv_refl0 {d : PyData} (h : d.canLay0 = true) : PyData.eqv d d = true := SeqAt.eqv_refl d h
theorem D.eqv_self {d : D} (h : d.fine = true) : d.eqv d = true := by
  have h1 := (Bool.and_eq_true_iff.mp h).2
  exact eqv_refl0 (SeqAt.canLay_of_shaped h1)
theorem isFr_no2 {xs : List D} (h : xs.length ≠ 2) : isFr (.tup xs) = false := by
  match xs with
  | [] => rfl
  | [_] => rfl
  | [_, _] => exact absurd rfl h
  | _ :: _ :: _ :: _ => rfl
/-- a def of the text as the top leaves it -/
structure DefT (K : PySem.W.Frag) (mg : Str → Option Value) (x : Str) (st : Stmt) (ps : List Str) where
  f : Addr
  d : FuncData
  F : L2.Fun K x x st f d
  g : mg x = some (.ref f)
  b : Binds K d ps []
section
variable {X : Cx} {K : PySem.W.Frag}
theorem ix_seqK (h : X.K = K) : IxR X (rIx K) := by subst h; exact ix_seq
theorem op_eqDK (h : X.K = K) (hu : X.A.units + 64 < cLine) : OpR X (compareOp .Eq) (rEqD K) := by subst h; exact op_eqD hu
theorem op_neDK (h : X.K = K) (hu : X.A.units + 64 < cLine) : OpR X (compareOp .NotEq) (rNeD K) := by subst h; exact op_neD hu
theorem op_plusK (h : X.K = K) : OpR X (binaryOp .Add) (rPlus K) := by subst h; exact op_plus
theorem cr_allK (h : X.K = K) (hc : X.calm = true) : CallR X (.builtin "all") (rAll K) := by subst h; exact cr_all hc
theorem call_isiK' (h : X.K = K) : CallR X (.builtin "isinstance") (rIsi K) := by subst h; exact call_isi
theorem call_lenK (h : X.K = K) : CallR X (.builtin "len") (fun xs H Q => ∃ x n, xs = [x] ∧ LenV K x H n ∧ Q (.int n) H) := by subst h; exact call_len
theorem call_tuple_ofK (h : X.K = K) : CallR X (.type "tuple") (fun xs H Q => ∃ p ys, xs = [.ref p] ∧ ((SqL K H p ys ∧ ∀ l, H l = none → Q (.ref l) (upd H l (.tup ys))) ∨ (SqT K H p ys ∧ Q (.ref p) H))) := by subst h; exact call_tuple_of
theorem call_list_ofK (h : X.K = K) : CallR X (.type "list") (fun xs H Q => ∃ p ys, xs = [.ref p] ∧ (SqL K H p ys ∨ SqT K H p ys) ∧ ∀ l, H l = none → Q (.ref l) (upd H l (.lst ys))) := by subst h; exact call_list_of
theorem pi_seqK {tg iter : Expr} {tl : TE} (h : X.K = K) (hl : PE X iter tl) : PI X tg iter (iSeq K tl) := by subst h; exact pi_seq (pi_list hl) (pi_tup hl)
theorem pi_zipAK {e e2 : Expr} {ta : TA} {p pos tpos : Pos} {elts : List Expr} {kk : Nat} (h : X.K = K) (hg : Gl X "zip") (hm : X.mg "zip" = none) (ha : PA X [e, e2] ta)
    (hs : starEach [e, e2] X.env = (false, eval e X.env) :: starEach [e2] X.env := by rfl) (hpl : (backTo pos (starEach [e2] X.env)).any (·.1) = false := by rfl) :
    PI X (.Tuple elts kk tpos) (.Call (.Name "zip" p) [e, e2] [] pos) (iZipA K ta) := by subst h; exact RZ.pi_zipA hg hm ha hs hpl
theorem pg_tupK {es : List Expr} {k : Nat} {t : TGs} {n : Nat} {pos : Pos} (h : X.K = K) (hc : X.calm = true) (ht : PGs X es t)
    (hn : (assignEach es X.env).length = n := by rfl) (hst : (assignEach es X.env).findIdx? (·.1) = none := by rfl) : PG X (.Tuple es k pos) (gTup K n t) := by subst h; exact pg_tup hc ht hn hst
theorem sl_tupAK (h : X.K = K) : SlR X (rSlA K) := by subst h; exact sl_tupA
end
theorem hr_u {k : Nat} {A : Around} (hr : Room k A) : A.units + 64 < cLine := by
  have := hr.un
  omega
abbrev FD := List D → (D → Prop) → Prop
/-- a def's promise, by data -/
def spD (K : PySem.W.Frag) (F : FD) : Sp := fun vs H Q _ => ∃ (W : Wd) (M : Addr → Prop) (ds : List D) (P : D → Prop), W.K = K ∧ Wf W M H ∧ Reps W M H vs ds ∧ F ds P ∧ ∀ v d H', StOk W H' → Keep W H H' → Rep W M H' v d → P d → Q v H'
theorem spD_len {K : PySem.W.Frag} {F : FD} {n : Nat} (hF : ∀ ds P, F ds P → ds.length = n) (vs : List V) (H : Hp) (Q : VK) (E : XK) (h : spD K F vs H Q E) : vs.length = n := by
  obtain ⟨W, M, ds, P, _, _, r, f, _⟩ := h
  rw [r.length]
  exact hF ds P f
theorem ev_call {W : Wd} {δ : DS} {F : FD} {E : XK} {ta : TA} {P : D → Prop} (h : EvA W ta δ fun ds => F ds P) : EvD W (tCall (spD W.K F) [] E ta) δ P := fun M σ H p Q q =>
  h M σ H p _ fun vs ds H1 g1 k1 r1 h1 => ⟨W, M, ds, P, rfl, p.wf.next g1 k1, by rw [List.append_nil]; exact r1, h1, fun v d H2 g2 k2 r2 h2 => q v d H2 g2 (k1.trans k2) r2 h2⟩
def startD (n : Nat) (ds : List D) : DS := ds.map some ++ List.replicate (n - ds.length) none
theorem start_slots {W : Wd} {M : Addr → Prop} {H : Hp} {vs : List V} {ds : List D} (N : List Str) (r : Reps W M H vs ds) : Slots W M H (L2.start N vs) (startD N.length ds) where
  len := by simp [L2.start, startD, r.length]
  get := fun i d h => by
    unfold startD at h
    unfold L2.start
    by_cases hl : i < ds.length
    · rw [List.getElem?_append_left (by rw [List.length_map]; exact hl), List.getElem?_map] at h
      have e : ds[i]? = some d := by
        rw [List.getElem?_eq_getElem hl] at h ⊢
        exact Option.some.inj h
      obtain ⟨v, h1, h2⟩ := r.get e
      refine ⟨v, ?_, h2⟩
      rw [List.getElem?_append_left (by rw [List.length_map, r.length]; exact hl), List.getElem?_map, h1]
      rfl
    · rw [List.getElem?_append_right (by rw [List.length_map]; omega)] at h
      have := List.mem_of_getElem? h
      rw [List.mem_replicate] at this
      cases this.2
theorem body_of {K : PySem.W.Frag} {F : FD} {vs : List V} {H : Hp} {Q : VK} {E : XK} {N : List Str} {t : TS} (h : spD K F vs H Q E)
    (hb : ∀ W ds P, W.K = K → F ds P → SD W t (startD N.length ds) (fun _ => P .non) P (fun _ => False) (fun _ => False)) : t { nx := fun _ H' => Q .non H', rt := Q } (L2.start N vs) H := by
  obtain ⟨W, M, ds, P, e, w, r, f, q⟩ := h
  exact hb W ds P e f M H M _ H _ ⟨w, start_slots N r⟩ ⟨Keep.refl _, fun _ x => x, fun a x y => absurd x y⟩
    ⟨fun M' σ' δ' H' p' e' x => q .non .non H' p'.wf.g e'.k .non x, fun v d H' g k r' x => q v d H' g k r' x, fun _ _ _ _ _ _ x => x.elim, fun _ _ _ _ _ _ x => x.elim, fun _ _ _ _ _ _ _ _ _ _ x => x.elim⟩
def spState (K : PySem.W.Frag) : Sp := fun vs H Q _ => ∃ (a : Addr) (ns : List Int) (t : Int), vs = [.ref a, .int t] ∧ SqL K H a (ns.map V.int) ∧ ns.length ≤ 63 ∧ 0 ≤ t ∧ t < 1000 ∧
  ∀ (H' : Hp) (s b : Addr), (∀ x o, H x = some o → H' x = some o) → H s = none → b ≠ s → H' s = some (.lst [.ref b, .int 0, .int 0, .int (1 + t)]) → H' b = some (.lst (ns.map V.int)) → Q (.ref s) H'
def spLaw (K : PySem.W.Frag) : Sp := fun vs H Q _ => ∃ (a : Addr) (ns : List Int), vs = [.ref a] ∧ SqL K H a (ns.map V.int) ∧ ns.length ≤ 63 ∧ ∀ H', Q (.bl true) H'
theorem et_yes {W : Wd} {δ : DS} {P : Bool → Prop} (h : P true) : EvT W tYes δ P := fun M σ H p Q q => q true H p.wf.g (Keep.refl H) h
theorem take_snoc {α : Type} {l : List α} {i : Nat} {x : α} (h : l[i]? = some x) : l.take i ++ [x] = l.take (i + 1) := by
  rw [List.take_add_one, h]
  rfl
/-- the list that comes is known: L -/
theorem ev_lcLF {W : Wd} {δ : DS} {wi : TI} {g : TG} {te : TE} {vs : List Nat} {P : List D → Prop} (h : IterD W wi δ fun ds => ds.length ≤ 100000 ∧ ∃ L : List D, L.length = ds.length ∧
    (∀ (i : Nat) (d y : D), ds[i]? = some d → L[i]? = some y → ∃ js, (∀ j ∈ js, j ∈ vs) ∧ GD W g d (wipeD δ vs) js fun δ2 => EvD W te δ2 fun z => z = y) ∧ P L) : EvF W (tLc wi g tYes te vs) δ P :=
  ev_lcF fun M σ H p R q => h M σ H p R fun J H1 ds g1 k1 ⟨hl, L, hL, hs, hP⟩ => q J H1 ds g1 k1 ⟨hl, fun i acc => acc = L.take i, rfl, fun i d acc hd ha => by
    have hi : i < L.length := by rw [hL]; exact (List.getElem?_eq_some_iff.mp hd).1
    have hy : L[i]? = some L[i] := List.getElem?_eq_getElem hi
    obtain ⟨js, h1, h2⟩ := hs i d _ hd hy
    refine ⟨js, h1, fun M σ H v p r Q q => h2 M σ H v p r Q fun σ' δ' p' e' w' => q σ' δ' p' (et_yes ⟨fun _ => ev_mono e' fun z hz => ?_, fun z => by cases z⟩) w'⟩
    rw [ha, hz]
    exact take_snoc hy, fun acc ha => by
    rw [ha, ← hL, List.take_length]
    exact hP⟩
theorem ev_lcL {W : Wd} {δ : DS} {wi : TI} {g : TG} {te : TE} {vs : List Nat} {P : D → Prop} (h : IterD W wi δ fun ds => ds.length ≤ 100000 ∧ ∃ L : List D, L.length = ds.length ∧
    (∀ (i : Nat) (d y : D), ds[i]? = some d → L[i]? = some y → ∃ js, (∀ j ∈ js, j ∈ vs) ∧ GD W g d (wipeD δ vs) js fun δ2 => EvD W te δ2 fun z => z = y) ∧ P (.lst L)) : EvD W (tLc wi g tYes te vs) δ P := ev_ofF (ev_lcLF h)
/-- of the items that come something is known: G -/
theorem ev_lcAll {W : Wd} {δ : DS} {wi : TI} {g : TG} {te : TE} {vs : List Nat} {P : D → Prop} (G : D → Prop) (h : IterD W wi δ fun ds => ds.length ≤ 100000 ∧
    (∀ (i : Nat) (d : D), ds[i]? = some d → ∃ js, (∀ j ∈ js, j ∈ vs) ∧ GD W g d (wipeD δ vs) js fun δ2 => EvD W te δ2 G) ∧ ∀ l : List D, l.length = ds.length → (∀ y ∈ l, G y) → P (.lst l)) : EvD W (tLc wi g tYes te vs) δ P :=
  ev_lc fun M σ H p R q => h M σ H p R fun J H1 ds g1 k1 ⟨hl, hs, hP⟩ => q J H1 ds g1 k1 ⟨hl, fun i acc => acc.length = i ∧ ∀ y ∈ acc, G y, ⟨rfl, fun y hy => by cases hy⟩, fun i d acc hd ha => by
    obtain ⟨js, h1, h2⟩ := hs i d hd
    refine ⟨js, h1, fun M σ H v p r Q q => h2 M σ H v p r Q fun σ' δ' p' e' w' => q σ' δ' p' (et_yes ⟨fun _ => ev_mono e' fun z hz => ⟨?_, fun y hy => ?_⟩, fun z => by cases z⟩) w'⟩
    · rw [List.length_append, ha.1]
      rfl
    · rcases List.mem_append.mp hy with hy | hy
      · exact ha.2 y hy
      · rw [List.mem_singleton.mp hy]
        exact hz, fun acc ha => hP acc ha.1 ha.2⟩
theorem lt_pow {n m k : Nat} (h : n < 2 ^ m) (hk : m ≤ k) : n < 2 ^ k := Nat.lt_of_lt_of_le h (Nat.pow_le_pow_right (by decide) hk)
theorem Sz.mono {n m : Nat} {p : Fr} (h : Sz n p) (hm : n ≤ m) : Sz m p := ⟨lt_pow h.1 hm, lt_pow h.2 hm⟩
theorem div_ok {i j : Int} (h : 0 < j) (hb : j.natAbs < 2 ^ 8000) : CDivW i j := wide_div h hb (by decide) (by decide)
theorem mul_small {i j : Int} (h1 : -1000000000000 < i) (h2 : i < 1000000000000) (h3 : -1000000000000 < j) (h4 : j < 1000000000000) : CMulW i j :=
  wide_mul (a := 60) (b := 60) (by have : (2 : Nat) ^ 60 = 1152921504606846976 := by decide
                                   omega) (by have : (2 : Nat) ^ 60 = 1152921504606846976 := by decide
                                              omega) (by decide) (by decide) (by decide)
theorem div_small {i j : Int} (h1 : 0 < j) (h2 : j < 1000000000000) : CDivW i j :=
  wide_div (b := 60) h1 (by have : (2 : Nat) ^ 60 = 1152921504606846976 := by decide
                            omega) (by decide) (by decide)
theorem div_gcd {a b i : Int} (hb : 0 < b) (hs : b.natAbs < 2 ^ 8000) : CDivW i (gcdI a b : Int) := by
  have h1 := gcdI_pos (a := a) (b := b) (by omega)
  have h2 := gcdI_le (a := a) (b := b) (by omega)
  exact div_ok (by omega) (by omega)
end PD
namespace PDI
open PySem PySem.Spec L2 PyProof.Rows
open AutoSeq1 (wpAny_loadPart')
/-- the two objects that enumerate(t) lays -/
def eIt (l : Addr) : Obj := { cls := .type "tuple_iterator", data := .fields #[.ref l, .int 0 0] }
def eOb (i : Addr) : Obj := { cls := .type "enumerate", data := .fields #[.none, .bool false, .ref i, rawInt 0, .none, .none] }
def eHeap (h : Heap) (l : Addr) : Heap := (h.push (eIt l)).push (eOb h.objs.size)
theorem eHeap_keep {h : Heap} {l b : Addr} {o : Obj} (e : h.get? b = some o) : (eHeap h l).get? b = some o := Heap.get?_push_of_some _ (Heap.get?_push_of_some _ e)
theorem eHeap_it (h : Heap) (l : Addr) : (eHeap h l).get? h.objs.size = some (eIt l) := Heap.get?_push_of_some _ (Heap.get?_push_size _ rfl)
theorem eHeap_ob (h : Heap) (l : Addr) : (eHeap h l).get? (h.objs.size + 1) = some (eOb h.objs.size) := by
  have z := Heap.get?_push_size (h.push (eIt l)) (o := eOb h.objs.size) rfl
  rwa [Heap.size_push] at z
theorem new_enumT (l : Addr) (xs : Array Value) (n : Nat) (dd : Option Addr) (sl : Array (Option Value)) :
    Meets (Builtin.«enumerate.__new__» ⟨[.type "enumerate", .ref l], []⟩) fun _ R s => s.heap.get? l = some { cls := .type "tuple", dict := dd, data := .seq xs n, slots := sl } ∧ R (.ok (.ret (.ref (s.heap.push (eIt l)).objs.size))) { s with heap := eHeap s.heap l } :=
  Meets.of_wp fun prog w A R s ⟨hl, hR⟩ => by
    rcases s with ⟨heap, gens, dr, toks, os⟩
    have sub := sub_enumerate
    have tup : heap.IsTuple l xs := ⟨_, hl, rfl, n, rfl⟩
    unfold eHeap eIt eOb at hR
    wp_walk using wpAny_loadPart' hl
    refine wpAny_stack_any fun _ => wpAny_pure ?_
    split
    · rename_i c _ _ _ _ _
      cases (c == Value.type "enumerate") <;> (wp_walk using wpAny_loadPart' hl, wpAny_pyIter_tuple tup; exact ⟨_, rfl, hR⟩)
    · (wp_walk using wpAny_loadPart' hl, wpAny_pyIter_tuple tup; exact ⟨_, rfl, hR⟩)
theorem run_enumT {prog : Program} {w : World} {A : Around} {E Q : Value → Shared → Prop} {s : Shared} {l : Addr} {xs : Array Value} (t : s.heap.IsTuple l xs) (q : Q (.ref (s.heap.objs.size + 1)) { s with heap := eHeap s.heap l }) :
    wpAny (model prog w) A (call (.type "enumerate") [Value.ref l]) Q E s := by
  obtain ⟨⟨cls, dd, data, sl⟩, hl, ec, n, ed⟩ := t
  cases (show cls = .type "tuple" from ec)
  cases (show data = .seq xs n from ed)
  have sz : (s.heap.push (eIt l)).objs.size = s.heap.objs.size + 1 := Heap.size_push ..
  refine callType_new F.called_enumerate (by decide) (F.typeCall_enumerate_1 _) (F.newCall_enumerate_1 _) (fun ob => F.args_object_init_2 ob _) F.entry_enumerate_new (new_enumT l xs n dd sl) ⟨hl, ?_⟩
  show (∃ o, (eHeap s.heap l).get? (s.heap.push (eIt l)).objs.size = some o ∧ _) ∧ _
  rw [sz]
  exact ⟨⟨_, eHeap_ob _ _, rfl⟩, q⟩
/-- the tuple at a, its items in new pairs with their numbers -/
def IteT (K : PySem.W.Frag) (a : Addr) : It where
  go := fun i H => ∃ (xs : List V) (x : V), SqT K H a xs ∧ xs[i]? = some x
  yld := fun i H v H' => ∃ T x, v = .ref T ∧ H T = none ∧ H' = upd H T (.tup [.int (i : Nat), x]) ∧ ∀ xs, SqT K H a xs → xs[i]? = some x
  stop := fun i H => ∃ xs : List V, SqT K H a xs ∧ xs.length = i
/-- how the two objects stand at the i-th turn -/
structure EnSt (a e it : Addr) (i : Nat) (h : Heap) : Prop where
  ob : ∃ old, IsEnum h e it (i : Int) old
  ti : h.IsTupleIter it a i
  n1 : e ≠ it
  n2 : a ≠ it
  n3 : a ≠ e
theorem two {e it b : Addr} (h : b ∈ [e, it]) : b = e ∨ b = it := by
  rcases List.mem_cons.mp h with z | z
  · exact .inl z
  · exact .inr (List.mem_singleton.mp z)
theorem turn_enumT {P : Program} {w : World} {K : PySem.W.Frag} {elts : List Expr} {kk : Nat} {tpos : Pos} (a e it : Addr) : Turn P w K (.Tuple elts kk tpos) (IteT K a) [e, it] e (EnSt a e it) where
  mem := List.mem_cons_self
  obj := fun i h st b hb => by
    obtain ⟨old, he⟩ := st.ob
    obtain ⟨o, ho, _, hd⟩ := st.ti
    rcases two hb with rfl | rfl
    · refine ⟨_, he, ?_⟩
      intro v q
      cases q
    · refine ⟨o, ho, ?_⟩
      intro v q
      rw [hd] at q
      cases q
  keep := fun i h h' st k => by
    obtain ⟨old, he⟩ := st.ob
    refine ⟨⟨old, k e List.mem_cons_self _ he⟩, ?_, st.n1, st.n2, st.n3⟩
    exact st.ti.at fun o q => k it (List.mem_cons_of_mem _ List.mem_cons_self) o q
  item := by
    rintro X rfl rfl rfl calm i pins s σ H E I young st ⟨xs, x, hs, hx⟩
    obtain ⟨old, he⟩ := st.ob
    obtain ⟨us, rel, isT, _⟩ := I.tuple hs
    obtain ⟨u, hu, ru⟩ := rel.get hx
    have inE : e < s.heap.objs.size := Heap.lt_size he
    have inI : it < s.heap.objs.size := by
      obtain ⟨_, q, _⟩ := st.ti
      exact Heap.lt_size q
    have lt : i < us.toArray.size := by
      have := (List.getElem?_eq_some_iff.mp hu).1
      simpa using this
    have apart : e ∉ [it, a] := fun m => by
      rcases two m with z | z
      · exact st.n1 z
      · exact st.n3 z.symm
    refine wpAny_pyNext_enum_itemC (Draws.tuple (prog := X.prog) (w := X.w) (A := X.A.in1) (I.ok.hd calm) it a st.n2 us.toArray) he ⟨st.ti, isT⟩ lt st.n1 apart fun y h1 tk gy own it1 pair _ same => ?_
    have ey : y = u := by
      have g1 : us.toArray[i]? = some y := gy
      rw [show us.toArray[i]? = some u by simpa using hu] at g1
      exact (Option.some.inj g1).symm
    subst ey
    refine ⟨_, rfl, wpAny_letOwnedTupleGo_enum (s := { s with heap := h1, toks := tk + 1 }) own fun h2 e2 off => ?_⟩
    generalize hp : s.heap.objs.size = p at *
    have far : ∀ b, b ∈ [e, it] → b ≠ p := fun b m z => by
      rcases two m with y | y
      · rw [← y, z] at inE
        exact Nat.lt_irrefl _ inE
      · rw [← y, z] at inI
        exact Nat.lt_irrefl _ inI
    have out : ∀ {b : Addr}, b ∉ [e, it] → b ≠ e ∧ b ≠ it := fun {b} n => ⟨fun z => n (by rw [z]; exact List.mem_cons_self), fun z => n (by rw [z]; exact List.mem_cons_of_mem _ List.mem_cons_self)⟩
    have pair2 : h2.get? p = some { cls := .type "tuple", data := .seq #[.int i tk, y] } := (off.2 p (far e List.mem_cons_self).symm).trans pair
    have J : Inv X pins σ (upd H p (.tup [.int (i : Nat), x])) { s with heap := h2, toks := tk + 1 } :=
      I.turnedNew (ch := [e, it]) (fun b o n q => (off.2 b (out n).1).trans (same b o (out n).1 (out n).2 q)) young (Nat.le_of_eq hp) ⟨by show 2 ≤ sizeLine; decide, [.int i tk, y], .cons ⟨_, rfl⟩ (.cons ru .nil), ⟨_, pair2, rfl, _, rfl⟩⟩
    refine ⟨.ref p, _, J, rfl, ⟨p, x, rfl, I.hok.fresh (Nat.le_of_eq hp), rfl, fun ys hy => ?_⟩, ⟨⟨y, ?_⟩, ?_, st.n1, st.n2, st.n3⟩, fun b m => ?_⟩
    · rw [I.tuple_inj hy hs]
      exact hx
    · rw [show ((i + 1 : Nat) : Int) = (i : Int) + 1 from Int.natCast_add i 1]
      exact e2
    · exact it1.1.at fun o q => (off.2 it st.n1.symm).trans q
    · exact (upd_ne (far b m)).trans (young b m).1
  done := by
    rintro X rfl rfl rfl calm i pins s σ H E I young st ⟨xs, hs, hx⟩
    obtain ⟨old, he⟩ := st.ob
    obtain ⟨us, rel, isT, _⟩ := I.tuple hs
    have len : us.toArray.size = i := by
      have := rel.length
      simp
      omega
    have y1 := young it (List.mem_cons_of_mem _ List.mem_cons_self)
    refine wpAny_pyNext_enum_endD (Draws.tuple (prog := X.prog) (w := X.w) (A := X.A.in1) (I.ok.hd calm) it a st.n2 us.toArray) he (by rw [len]; exact ⟨st.ti, isT⟩) fun h1 eb => ⟨rfl, ?_⟩
    exact I.turned (t' := s.toks) (fun b o n q => eb b o n q) y1.1 y1.2.1 y1.2.2.2.1 y1.2.2.2.2.1 y1.2.2.2.2.2
  self := fun A i s Q E st h => by
    obtain ⟨old, he⟩ := st.ob
    exact wpAny_pyIter_enum he h
def iEnumT (K : PySem.W.Frag) (ta : TA) : TI := fun σ H R => ta σ H fun vs H1 => ∃ a xs, vs = [.ref a] ∧ SqT K H1 a xs ∧ R (IteT K a) H1
theorem pi_enumT {X : Cx} {K : PySem.W.Frag} {e : Expr} {ta : TA} {p pos tpos : Pos} {elts : List Expr} {kk : Nat} (hK : X.K = K) (hg : Gl X "enumerate") (hm : X.mg "enumerate" = none) (ha : PA X [e] ta) (hs : starEach [e] X.env = [(false, eval e X.env)] := by rfl) :
    PI X (.Tuple elts kk tpos) (.Call (.Name "enumerate" p) [e] [] pos) (iEnumT K ta) := by
  subst hK
  constructor
  intro pins s σ H R I wish
  refine Call_ (ld_blt I hg hm boot_enumerate (PyProof.Rows.callWith_type1 (thn (ha.run pos pins s σ H _ I wish) ?_) hs rfl))
  rintro us s1 ⟨vs, H1, I1, rel, a, xs, rfl, sq, q⟩
  cases rel with
  | cons r0 r1 =>
    cases r1
    cases r0
    obtain ⟨us, _, isT, _⟩ := I1.tuple sq
    have inA : a < s1.heap.objs.size := by
      obtain ⟨o, ho, _⟩ := id isT
      exact Heap.lt_size ho
    refine run_enumT (show s1.heap.IsTuple a us.toArray from isT) (wpAny_pyIter_enum (eHeap_ob s1.heap a) ?_)
    have J : Inv X pins σ H1 { s1 with heap := eHeap s1.heap a } := I1.kept (t' := s1.toks) fun b o z => eHeap_keep z
    refine ⟨s1.heap.objs.size + 1, [s1.heap.objs.size + 1, s1.heap.objs.size], _, _, H1, rfl, J, turn_enumT a _ _, ⟨⟨.none, eHeap_ob s1.heap a⟩, ⟨_, eHeap_it s1.heap a, rfl, rfl⟩, Nat.succ_ne_self _, Nat.ne_of_lt inA, Nat.ne_of_lt (Nat.lt_succ_of_lt inA)⟩, fun b m => ?_, q⟩
    have hb : s1.heap.objs.size ≤ b := by
      rcases two m with rfl | rfl
      · exact Nat.le_succ _
      · exact Nat.le_refl _
    exact I1.fpOk hb (I1.hok.fresh hb)
end PDI
namespace PDX
open PySem PySem.Spec L2 PyProof.Rows
section
variable {fs : List Addr} {P : Program} {w : World} {A B : Hp} {h0 h1 h2 G : Heap} {p : Addr} {o : HO}
/-- seen from a smaller heap, without the object at p -/
theorem un_from (u : Un fs [] (upd A p o) B h1 h2) (le : ∀ x v, h0.get? x = some v → h1.get? x = some v) (off : ∀ x v, h0.get? x = some v → x ≠ p) (hp : A p = none) : Un fs [] A B h0 h2 := by
  have same : ∀ {x : Addr}, x ≠ p → upd A p o x = A x := fun z => upd_ne z
  have told : ∀ {x : Addr} {v : HO}, A x = some v → x ≠ p := fun {x v} e z => by rw [z, hp] at e; cases e
  constructor
  · intro x v e n f q
    exact u.keep x v (le x v e) ((same (off x v e)).trans n) f q
  · intro x v e n f q
    exact u.slot x v (le x v e) ((same (off x v e)).trans n) f q
  · intro x v e n q
    exact u.free x v (le x v e) ((same (off x v e)).trans n) q
  · intro x v e q
    exact u.there x v (le x v e) q
  · intro x v e
    exact u.tups x v ((same (told e)).trans e)
  · intro x v y e
    exact u.frzs x v y ((same (told e)).trans e)
  · intro x v e
    exact u.tbls x v ((same (told e)).trans e)
/-- .. and from the heap behind it that lacks it too -/
theorem un_less (u : Un fs [] A B h0 h2) (eq : ∀ x, x ≠ p → G.get? x = h2.get? x) (off : ∀ x v, h0.get? x = some v → x ≠ p) (hp : A p = none) : Un fs [] A (del B p) h0 G := by
  have told : ∀ {x : Addr} {v : HO}, A x = some v → del B p x = B x := fun {x v} e => del_ne fun z => by rw [z, hp] at e; cases e
  constructor
  · intro x v e n f q
    exact (eq x (off x v e)).trans (u.keep x v e n f q)
  · intro x v e n f q
    obtain ⟨l, hl⟩ := u.slot x v e n f q
    exact ⟨l, (eq x (off x v e)).trans hl⟩
  · intro x v e n q
    exact (del_ne (off x v e)).trans (u.free x v e n q)
  · intro x v e q
    obtain ⟨y, hy⟩ := u.there x v e q
    exact ⟨y, (eq x (off x v e)).trans hy⟩
  · intro x v e
    exact (told e).trans (u.tups x v e)
  · intro x v y e
    exact (told e).trans (u.frzs x v y e)
  · intro x v e
    obtain ⟨l, hl⟩ := u.tbls x v e
    exact ⟨l, (told e).trans hl⟩
theorem hok_less {C : Addr} (ok : HOk P w B h2) (ep : B p = some (exo p C none)) (eq : ∀ x, x ≠ p → G.get? x = h2.get? x) : HOk P w (del B p) G := by
  have other : ∀ {x : Addr} {v : HO}, B x = some v → exo p C none ≠ v → x ≠ p := fun {x v} e d z => by
    rw [z, ep] at e
    exact d (Option.some.inj e)
  intro x v e
  by_cases z : x = p
  · subst z
    rw [del_same] at e
    cases e
  · rw [del_ne z] at e
    refine ObjOk.stay (ok x v e) ?_ ?_ ?_
    · rintro y v2 (rfl | hy) q
      · exact (eq _ z).trans q
      · exact (eq _ (other hy exo_own)).trans q
    · intro y hy
      exact (del_ne (other hy exo_own)).trans hy
    · intro y l hy
      exact (del_ne (other hy exo_tup)).trans hy
end
/-- C() -/
def tMk0 (C : Addr) (sp : Sp) : L2.St → Hp → XK → Prop := fun σ H Q => ∀ a, H a = none → sp [.ref a] (upd H a (exo a C none)) (fun v H2 => v = .non ∧ H2 a = some (exo a C none) ∧ Q (.ref C) none (del H2 a)) (fun _ _ _ => False)
section
variable {X : Cx} {pos p : Pos}
/-- what such an __init__ leaves -/
theorem bare_end {pins : List (Addr × Obj)} {σ : L2.St} {H H2 : Hp} {Q : XK} {s s2 : Shared} {hm : Heap} {a C : Addr} (T : OexC X.K C) (I : L2.Inv X pins σ H s) (ha : s.heap.objs.size ≤ a) (le : ∀ x v, s.heap.get? x = some v → hm.get? x = some v)
    (u : Un (frs X.stack) [] (upd H a (exo a C none)) H2 hm s2.heap) (ok : HOk X.prog X.w H2 s2.heap) (os : s2.os = s.os) (bare : AllBare s2.gens) (ea : H2 a = some (exo a C none)) (q : Q (.ref C) none (del H2 a)) : MkP X pins σ Q (.ref a) s2 := by
  have off : ∀ x v, s.heap.get? x = some v → x ≠ a := by
    rintro x v e rfl
    exact absurd (Heap.lt_size e) (Nat.not_lt.mpr ha)
  have na : H a = none := I.hok.fresh ha
  obtain ⟨t, ho⟩ := exo_at ok ea
  obtain ⟨G, same, gone⟩ := restrict s2.heap fun x => !decide (x = a)
  have eq : ∀ x, x ≠ a → G.get? x = s2.heap.get? x := fun x hx => same x (by simp [hx])
  have ga : G.get? a = none := gone a (by simp)
  have J : L2.Inv X pins σ (del H2 a) { s2 with heap := G } := I.call' (ch := []) os (un_less (un_from u le off na) eq off na) (hok_less ok ea eq) bare (by simp)
  refine ⟨a, _, _, { s2 with heap := G }, del H2 a, .ref C, none, rfl, J, fun x v e => ?_, ga, ho, ⟨rfl, rfl⟩, rfl, rfl, del_same, rfl, bare, raises_own T.exC T.tyC, q⟩
  have hx : x ≠ a := fun z => by rw [z, ga] at e; cases e
  exact (eq x hx).symm.trans e
theorem pmk_oe0 {CX : CXT} {x : Str} {C fI : Addr} {k : Nat} {fd : FuncData} {ps : List Str} {sp : Sp} (T : OexC X.K C) (iC : PySem.W.findIn X.K (.ref C) "__init__" = some (some (.ref fI))) (tI : PySem.W.typeIn X.K (.ref fI) = some (.type "function"))
    (F1 : FnOk X.prog X.w X.K X.mg X.base CX k fI fd ps sp) (hr : Room (k + 1) X.A) (hb : Binds X.K fd ps []) (hx : Passes CX X (fun _ _ _ => False)) (hg : Gl X x) (hm : X.mg x = some (.ref C))
    (hdb : (x == ("__debug__" : Str)) = false := by decide) : PMk X (.Call (.Name x p) [] [] pos) (tMk0 C sp) := by
  intro pins s σ H Q I wish
  obtain ⟨_, _, _, _, bm, _, _, _, _, _, _, _, _, _, _, hC, hv⟩ := T.cls
  refine wpAny_Call_Name_kw (ld_glob I hg hm (PySem.W.callWith_K0 I.kIn T.kC ?_) hdb)
  show wpAny _ _ (call (.ref C) []) _ _ _
  -- the two objects that a call lays: the arguments' tuple, the exception
  generalize ea : s.heap.objs.size + 1 = a
  have lo : s.heap.objs.size ≤ a := by omega
  obtain ⟨hm', ehm⟩ : ∃ z : Heap, z = (s.heap.push (PySem.W.kdv_tup [])).push (PySem.HandSPX.excO C s.heap.objs.size) := ⟨_, rfl⟩
  have le : ∀ y v, s.heap.get? y = some v → hm'.get? y = some v := fun y v e => by
    rw [ehm]
    exact Heap.get?_push_of_some _ (Heap.get?_push_of_some _ e)
  have at_ : hm'.get? a = some (PySem.HandSPX.excO C s.heap.objs.size) := by
    rw [ehm, ← ea]
    heap_get
  have W1 := wish a (I.hok.fresh lo)
  have I1 : L2.Inv X pins σ (upd H a (exo a C none)) { s with heap := hm' } := I.laid (t' := s.toks) (h' := hm') le lo (exo_ok at_)
  have n1 := F1.len _ _ _ _ W1
  have call := F1.run _ X.stack _ _ ⟨[Value.ref a], []⟩ [Value.ref a] _ _ (fun _ _ _ => False) (hr.make C [] []) (I1.env0.make C [] []) (hb _ [Value.ref a] I1.kIn (by simpa using n1)) (show Vals [V.ref a] [Value.ref a] from .cons rfl .nil) W1
  subst ehm
  subst ea
  refine wpAny_call (PySem.HandSPX.call_own F.excBase_ValueError (fun Y => PySem.HandSPX.refsVE_contains Y bm hv) (I.kIn _ _ hC) (PySem.W.looks_findIn I.kIn iC) (fun self => PySem.W.bind_fn I.kIn self tI) (Nat.zero_le _) (codeAny_mono call fun out s2 got => ?_))
  rcases out with er | fl
  · exact hx pins σ _ _ er s2 I1 got
  · cases fl <;> first
      | exact got.elim
      | (obtain ⟨v, H2, o2, b2, u2, k2, rv, ev, ee, wq⟩ := got
         subst ev
         exact ⟨rv, bare_end T I lo le u2 k2 o2 b2 ee wq⟩)
end
end PDX
namespace PD
open PySem PySem.Spec PyProof.Rows L2
open RZ (iZipA ItzT)
open PDX PDI
abbrev FX := List D → (D → Prop) → (XV → Prop) → Prop
def spX (K : PySem.W.Frag) (F : FX) : Sp := fun vs H Q E => ∃ (W : Wd) (M : Addr → Prop) (ds : List D) (P : D → Prop) (X : XV → Prop), W.K = K ∧ Wf W M H ∧ Reps W M H vs ds ∧ F ds P X ∧
  (∀ v d H', StOk W H' → Keep W H H' → Rep W M H' v d → P d → Q v H') ∧ ∀ cls dx x H', StOk W H' → Keep W H H' → XRep W M H' cls dx x → X x → E cls dx H'
theorem spX_len {K : PySem.W.Frag} {F : FX} {n : Nat} (hF : ∀ ds P X, F ds P X → ds.length = n) (vs : List V) (H : Hp) (Q : VK) (E : XK) (h : spX K F vs H Q E) : vs.length = n := by
  obtain ⟨W, M, ds, P, X, _, _, r, f, _⟩ := h
  rw [r.length]
  exact hF ds P X f
theorem body_ofX {K : PySem.W.Frag} {F : FX} {vs : List V} {H : Hp} {Q : VK} {E : XK} {N : List Str} {t : TS} (h : spX K F vs H Q E)
    (hb : ∀ W ds P X, W.K = K → F ds P X → SX W (fun cls d _ H => E cls d H) t (startD N.length ds) (fun _ => P .non) P (fun _ => False) (fun _ => False) (fun x _ => X x)) : t { nx := fun _ H' => Q .non H', rt := Q } (L2.start N vs) H := by
  obtain ⟨W, M, ds, P, X, e, w, r, f, q, qx⟩ := h
  exact hb W ds P X e f M H M _ H _ ⟨w, start_slots N r⟩ ⟨Keep.refl _, fun _ x => x, fun a x y => absurd x y⟩
    ⟨fun M' σ' δ' H' p' e' x => q .non .non H' p'.wf.g e'.k .non x, fun v d H' g k r' x => q v d H' g k r' x, fun _ _ _ _ _ _ x => x.elim, fun _ _ _ _ _ _ x => x.elim, fun M' σ' δ' H' cls d x p' e' rx hx => qx cls d x H' p'.wf.g e'.k (rx.anti e'.m) hx⟩
/-- a call of a def that may raise, where it does not -/
theorem passF {X : Cx} : Passes (L2.CX X.prog X.w) X (fun _ _ _ => False) := fun _ _ _ _ _ _ _ h => by
  obtain ⟨_, _, _, _, _, _, _, _, _, _, _, _, z⟩ := h
  exact z.elim
section
variable {W : Wd} {Wx : WX} {X : XV → DS → Prop} {δ : DS} {N : DS → Prop} {R : D → Prop} {B C : DS → Prop} {ta : TA} {F : FX}
theorem XRep.keep {M : Addr → Prop} {H H' : Hp} {cls : Value} {d : Option Addr} {x : XV} (w : Wf W M H) (k : Keep W H H') (h : XRep W M H cls d x) : XRep W M H' cls d x := by
  obtain ⟨h1, h2⟩ := h
  refine ⟨h1, ?_⟩
  cases d with
  | none => exact h2
  | some dx =>
    obtain ⟨fs, h6, h3, h5, h4⟩ := h2
    refine ⟨fs, h6, k dx _ (fun e => ?_) h3, h5, h4.keep w k⟩
    obtain ⟨ns, i, c, m, q, _⟩ := w.g dx e
    rw [h3] at q
    cases q
/-- a call that may raise, as a statement -/
theorem callX_core {M0 M : Addr → Prop} {H0 H1 : Hp} {σ : L2.St} {vs : List V} {ds : List D} {E : Ends} {Q : VK} {P : D → Prop} (p : Pre W M δ σ H1) (e : Ent W M0 H0 M H1) (r : Reps W M H1 vs ds) (o : Outs W Wx M0 H0 N R B C X E) (hF : F ds P fun x => X x δ)
    (hQ : ∀ v d H2, StOk W H2 → Keep W H1 H2 → Rep W M H2 v d → P d → Q v H2) : spX W.K F vs H1 Q (WE Wx σ) :=
  ⟨W, M, ds, P, fun x => X x δ, rfl, p.wf, r, hF, hQ, fun cls dx x H2 g2 k2 r2 hx => o.xw M σ δ H2 cls dx x (p.next g2 k2) (e.next k2) r2 hx⟩
theorem sx_drop (h : EvA W ta δ fun ds => F ds (fun _ => N δ) fun x => X x δ) : SX W Wx (tDrop (tCallS (spX W.K F) (WE Wx) ta)) δ N R B C X := fun M0 H0 M σ H E p e o =>
  h M σ H p _ fun vs ds H1 g1 k1 r1 h1 => callX_core (p.next g1 k1) (e.next k1) r1 o h1 fun v d H2 g2 k2 r2 hN => o.nx M σ δ H2 ((p.next g1 k1).next g2 k2) ((e.next k1).next k2) hN
theorem sx_ret (h : EvA W ta δ fun ds => F ds R fun x => X x δ) : SX W Wx (tRet (tCallS (spX W.K F) (WE Wx) ta)) δ N R B C X := fun M0 H0 M σ H E p e o =>
  h M σ H p _ fun vs ds H1 g1 k1 r1 h1 => callX_core (p.next g1 k1) (e.next k1) r1 o h1 fun v d H2 g2 k2 r2 hR => o.rt v d H2 g2 ((e.k.trans k1).trans k2) (r2.anti e.m) hR
/-- what an __init__ that stores nothing keeps -/
def spI0 (K : PySem.W.Frag) : Sp := fun vs H Q _ => ∃ a C, vs = [.ref a] ∧ OexC K C ∧ H a = some (exo a C none) ∧ Q .non H
theorem del_upd {H : Hp} {a : Addr} {o : HO} (h : H a = none) : del (upd H a o) a = H := by
  funext b
  unfold del upd
  by_cases e : b = a
  · rw [if_pos e, e, h]
  · rw [if_neg e, if_neg e]
/-- raise C(), C without a field -/
theorem sx_raise0 {C' : Addr} (hC : OexC W.K C') (h : X (C', []) δ) : SX W Wx (fun _ σ H => tMk0 C' (spI0 W.K) σ H fun cls d H' => Wx cls d σ H') δ N R B C X := fun M0 H0 M σ H E p e o => by
  intro a ha
  refine ⟨a, C', rfl, hC, upd_same, rfl, upd_same, ?_⟩
  rw [del_upd ha]
  exact o.xw M σ δ H _ none (C', []) p e ⟨rfl, rfl⟩ h
/-- what an __init__ that stores its one argument keeps -/
def spI1 (K : PySem.W.Frag) (f : Str) : Sp := fun vs H Q _ => ∃ a C y, vs = [.ref a, y] ∧ OexC K C ∧ PySem.W.findIn K (.ref C) f = some none ∧ H a = some (exo a C none) ∧
  ∀ dx, H dx = none → dx ≠ a → Q .non (upd (upd H dx (exd dx [(f, y)])) a (exo a C (some dx)))
/-- raise C(e), C's one field f -/
theorem sx_raise1 {C' : Addr} {f : Str} {ta : TA} (hC : OexC W.K C') (hf : PySem.W.findIn W.K (.ref C') f = some none) (h : EvA W ta δ fun ds => ∃ d, ds = [d] ∧ X (C', [(f, d)]) δ) : SX W Wx (fun _ σ H => tMkO C' (spI1 W.K f) [] ta σ H fun cls d H' => Wx cls d σ H') δ N R B C X := fun M0 H0 M σ H E p e o =>
  h M σ H p _ fun vs ds H1 g1 k1 r1 h1 => by
    obtain ⟨d, rfl, hX⟩ := h1
    cases r1 with
    | @cons v vs d ds r1 r2 =>
      cases r2
      refine ⟨by show 1 ≤ 1000; decide, fun a ha => ⟨a, C', v, rfl, hC, hf, upd_same, fun dx hdx hne => ⟨rfl, dx, [(f, v)], upd_same, ?_, ?_, ?_⟩⟩⟩
      · rw [upd_ne hne, upd_same]
      · rw [upd_ne hne] at hdx
        exact hdx
      · have hd1 : H1 dx = none := by
          rw [upd_ne hne] at hdx
          exact hdx
        have eH : upd (del (upd (upd (upd H1 a (exo a C' none)) dx (exd dx [(f, v)])) a (exo a C' (some dx))) a) dx (.xd [(f, v)]) = upd H1 dx (.xd [(f, v)]) := by
          funext b
          by_cases e1 : b = dx
          · subst e1
            simp [del, upd]
          · by_cases e2 : b = a
            · subst e2
              simp [del, upd, e1, ha]
            · simp [del, upd, e1, e2]
        rw [eH]
        have kn : Keep W H1 (upd H1 dx (.xd [(f, v)])) := Keep.new hd1
        have gn : StOk W (upd H1 dx (.xd [(f, v)])) := g1.new hd1
        have p1 := p.next g1 k1
        exact o.xw M σ δ _ _ (some dx) (C', [(f, d)]) (p1.next gn kn) ((e.next k1).next kn) ⟨rfl, _, fun m => (by obtain ⟨o, ho⟩ := p1.wf.dom dx m; rw [hd1] at ho; cases ho), upd_same, rfl, .cons (r1.keep p1.wf kn) .nil⟩ hX
end
end PD
namespace PD
open PySem PySem.Spec PyProof.Rows L2
open RZ (iZipA ItzT)
open PDX PDI
def enumD (ds : List D) : List D := List.zipWith (fun (i : Nat) d => D.tup [.int i, d]) (List.range ds.length) ds
theorem enumD_length (ds : List D) : (enumD ds).length = ds.length := by
  unfold enumD
  rw [List.length_zipWith, List.length_range]
  omega
theorem enumD_get {ds : List D} {i : Nat} {d : D} (h : (enumD ds)[i]? = some d) : ∃ x, ds[i]? = some x ∧ d = .tup [.int i, x] := by
  have hl := (List.getElem?_eq_some_iff.mp h).1
  rw [enumD_length] at hl
  unfold enumD at h
  rw [List.getElem?_zipWith, List.getElem?_range hl, List.getElem?_eq_getElem hl] at h
  exact ⟨_, List.getElem?_eq_getElem hl, (Option.some.inj h).symm⟩
section
variable {W : Wd} {δ : DS} {ta : TA}
theorem src_enumT {M : Addr → Prop} {H1 : Hp} {a : Addr} {vs : List V} {ds : List D} (w : Wf W M H1) (hs : SqT W.K H1 a vs) (hr : Reps W M H1 vs ds) : Src W M (IteT W.K a) H1 (enumD ds) := fun M' hm hn i H2 k g => by
  have wg : Wg W M' H1 := ⟨w.g, fun b e => hm b (w.sm b e)⟩
  have wg2 : Wg W M' H2 := ⟨g, fun b e => hm b (w.sm b e)⟩
  have hs2 := sqT_keepM wg (k.mono hm) hs
  have hr2 : Reps W M' H2 vs ds := (hr.more hn).keepM wg (k.mono hm)
  refine ⟨fun hl => ⟨vs, hs2, by rw [hr2.length, hl, enumD_length]⟩, fun d hd => ?_⟩
  obtain ⟨x, hx, rfl⟩ := enumD_get hd
  obtain ⟨v, hv, rv⟩ := hr2.get hx
  refine ⟨⟨vs, v, hs2, hv⟩, fun z H3 yy => ?_⟩
  obtain ⟨T, x1, rfl, hT, rfl, f1⟩ := yy
  have e1 := f1 vs hs2
  rw [hv] at e1
  cases e1
  have kn : Keep W H2 (upd H2 T (.tup [.int (i : Nat), v])) := Keep.new hT
  exact ⟨g.new hT, kn, .tup (SqT.of upd_same) (.cons (.int _) (.cons (rv.keepG wg2 kn) .nil))⟩
theorem it_enumT {P : List D → Prop} (h : EvA W ta δ fun xs => ∃ ds, xs = [.tup ds] ∧ P (enumD ds)) : IterD W (iEnumT W.K ta) δ P := fun M σ H p R q => h M σ H p _ fun vs ds H1 g1 k1 r1 h1 => by
  obtain ⟨ds, rfl, hP⟩ := h1
  cases r1 with
  | cons r1 r2 =>
    cases r2
    cases r1 with
    | tup hs hr => exact ⟨_, _, rfl, hs, q _ H1 _ g1 k1 hP (src_enumT (p.wf.next g1 k1) hs hr)⟩
end
theorem lookup_D {W : Wd} {M : Addr → Prop} {H : Hp} {f : Str} : ∀ {fs : List (Str × V)} {ds : List D} {d : D}, Reps W M H (fs.map (·.2)) ds → ((fs.map (·.1)).zip ds).lookup f = some d → ∃ v, fs.lookup f = some v ∧ Rep W M H v d
  | [], ds, d, _, h => by simp at h
  | (g, v) :: fs, ds, d, r, h => by
    cases r with
    | @cons _ _ d0 ds0 r1 r2 =>
      rw [List.map_cons, List.zip_cons_cons, List.lookup_cons] at h
      rw [List.lookup_cons]
      cases hb : f == g with
      | true =>
        rw [hb] at h
        cases h
        exact ⟨v, rfl, r1⟩
      | false =>
        rw [hb] at h
        exact lookup_D r2 h
theorem ev_fld {W : Wd} {δ : DS} {te : TE} {f : Str} {P : D → Prop} (h : EvD W te δ fun x => ∃ C ns ds d, x = .ins C ns ds ∧ Cls W.K C ∧ NoAttr W.K C f ∧ (ns.zip ds).lookup f = some d ∧ P d) : EvD W (tFld W.K te f) δ P := fun M σ H p Q q =>
  h M σ H p _ fun v x H1 g1 k1 r1 h1 => by
    obtain ⟨C, ns, ds, d, rfl, hC, hn, hl, hP⟩ := h1
    cases r1 with
    | ins nM ha e r =>
      subst e
      obtain ⟨v, h2, h3⟩ := lookup_D r hl
      exact ⟨_, C, _, _, v, rfl, ha, hC, hn, h2, q v d H1 g1 k1 h3 hP⟩
theorem pe_fldK {X : Cx} {K : PySem.W.Frag} {e : Expr} {te : TE} {f : Str} {pos : Pos} (hK : X.K = K) (he : PE X e te) (hb : attributeBase e f X.env (eval e X.env) = eval e X.env) : PE X (.Attribute e f pos) (tFld K te f) := by
  subst hK
  exact pe_fld he hb
abbrev FI := Addr → List D → (List Str → List D → Prop) → (XV → Prop) → Prop
/-- what a class's __init__ keeps: the new object (at x, its dict at dx) gets its fields, the rest stands -/
def spInit (K : PySem.W.Frag) (F : FI) : Sp := fun vs H Q E => ∃ (W : Wd) (M : Addr → Prop) (x dx C : Addr) (ws : List V) (ds : List D) (P : List Str → List D → Prop) (X : XV → Prop), vs = .ref x :: ws ∧ W.K = K ∧ Wf W M H ∧ M x ∧ W.s ≠ some x ∧
  H x = some (.ins C dx []) ∧ Reps W M H ws ds ∧ F C ds P X ∧
  (∀ H' fs es, StOk W H' → (∀ a o, a ≠ x → W.s ≠ some a → H a = some o → H' a = some o) → H' x = some (.ins C dx fs) → Reps W M H' (fs.map (·.2)) es → P (fs.map (·.1)) es → Q .non H') ∧
  ∀ cls d y H', StOk W H' → (∀ a o, a ≠ x → W.s ≠ some a → H a = some o → H' a = some o) → XRep W M H' cls d y → X y → E cls d H'
theorem spInit_len {K : PySem.W.Frag} {F : FI} {n : Nat} (hF : ∀ C ds P X, F C ds P X → ds.length + 1 = n) (vs : List V) (H : Hp) (Q : VK) (E : XK) (h : spInit K F vs H Q E) : vs.length = n := by
  obtain ⟨W, M, x, dx, C, ws, ds, P, X, rfl, _, _, _, _, _, r, f, _⟩ := h
  show ws.length + 1 = n
  rw [r.length]
  exact hF C ds P X f
theorem make_core {W : Wd} {F : FI} {M : Addr → Prop} {H1 : Hp} {vs : List V} {ds : List D} {C : Addr} {Q : VK} {E : XK} {P : D → Prop} {X : XV → Prop} (w : Wf W M H1) (r : Reps W M H1 vs ds) (hF : F C ds (fun ns es => P (.ins C ns es)) X)
    (q : ∀ v d H', StOk W H' → Keep W H1 H' → Rep W M H' v d → P d → Q v H') (qx : ∀ cls d y H', StOk W H' → Keep W H1 H' → XRep W M H' cls d y → X y → E cls d H') :
    ∀ x dx, H1 x = none → H1 dx = none → dx ≠ x → spInit W.K F (.ref x :: (vs ++ [])) (upd (upd H1 dx (.own x)) x (.ins C dx [])) (fun v H2 => v = .non ∧ Q (.ref x) H2) E := fun x dx hx hd hne => by
  have kn : Keep W H1 (upd (upd H1 dx (.own x)) x (.ins C dx [])) := (Keep.new hd).trans (Keep.new (by rw [upd_ne hne.symm]; exact hx))
  have gn : StOk W (upd (upd H1 dx (.own x)) x (.ins C dx [])) := (w.g.new hd).new (by rw [upd_ne hne.symm]; exact hx)
  have nM : ¬ M x := fun m => by
    obtain ⟨o, ho⟩ := w.dom x m
    rw [hx] at ho
    cases ho
  have ns : W.s ≠ some x := fun e => nM (w.sm x e)
  have hm : ∀ a, M a → M a ∨ a = x := fun a m => .inl m
  have wn : Wf W (fun a => M a ∨ a = x) (upd (upd H1 dx (.own x)) x (.ins C dx [])) := ⟨gn, fun a e => .inl (w.sm a e), fun a m => by
    rcases m with m | m
    · exact (w.next gn kn).dom a m
    · subst m
      exact ⟨_, upd_same⟩⟩
  have rn : Reps W (fun a => M a ∨ a = x) (upd (upd H1 dx (.own x)) x (.ins C dx [])) vs ds := (r.more fun a m n => by
    rcases m with m | m
    · exact absurd m n
    · subst m
      exact hx).keepG ⟨w.g, fun a e => .inl (w.sm a e)⟩ kn
  refine ⟨W, fun a => M a ∨ a = x, x, dx, C, vs, ds, _, X, by rw [List.append_nil], rfl, wn, .inr rfl, ns, upd_same, rn, hF, fun H' fs es g' k' hx' re hP => ⟨rfl, ?_⟩, fun cls d y H' g' k' rx hX => qx cls d y H' g' (fun a o na ho => k' a o (ne_of_none ho hx) na (kn a o na ho)) (rx.anti hm) hX⟩
  have kk : Keep W H1 H' := fun a o na ho => k' a o (ne_of_none ho hx) na (kn a o na ho)
  exact q (.ref x) _ H' g' kk (.ins nM hx' rfl (re.anti hm)) hP
theorem ev_make {W : Wd} {δ : DS} {F : FI} {C : Addr} {ta : TA} {P : D → Prop} (h : EvA W ta δ fun ds => F C ds (fun ns es => P (.ins C ns es)) fun _ => False) : EvD W (tMake C (spInit W.K F) [] (fun _ _ _ => False) ta) δ P := fun M σ H p Q q =>
  h M σ H p _ fun vs ds H1 g1 k1 r1 h1 => make_core (p.wf.next g1 k1) r1 h1 (fun v d H2 g2 k2 r2 h2 => q v d H2 g2 (k1.trans k2) r2 h2) fun _ _ _ _ _ _ _ z => z.elim
/-- the last rows of an __init__: self.f = a; self.g = b -/
theorem init_body2 {K : PySem.W.Frag} {F : FI} {vs : List V} {H : Hp} {Q : VK} {E : XK} {N : List Str} {t1 t2 : TS} {f g : Str} {i j : Nat} (h : spInit K F vs H Q E) (hfg : f ≠ g)
    (hb : ∀ W C (x : Addr) ds P X, W.K = K → F C ds P X → Cls K C ∧ NoAttr K C f ∧ NoAttr K C g ∧ SX W (fun cls d _ H => E cls d H) (tSeq t1 t2) (startD N.length (.obj x :: ds)) (fun δ => ∃ y z, δ[0]? = some (some (.obj x)) ∧ δ[i]? = some (some y) ∧ δ[j]? = some (some z) ∧ P [f, g] [y, z]) (fun _ => False) (fun _ => False) (fun _ => False) (fun y _ => X y)) :
    tSeq t1 (tSeq t2 (tSeq (sFld K (tVar 0) (tVar i) f) (sFld K (tVar 0) (tVar j) g))) { nx := fun _ H' => Q .non H', rt := Q } (L2.start N vs) H := by
  obtain ⟨W, M, x, dx, C, ws, ds, P, X, rfl, e, w, mx, ns, hx, r, hF, q, qx⟩ := h
  obtain ⟨c1, c2, c3, hS⟩ := hb W C x ds P X e hF
  subst e
  have r0 : Reps W M H (.ref x :: ws) (.obj x :: ds) := .cons (.obj x) r
  refine hS M H M _ H { nx := tSeq (sFld W.K (tVar 0) (tVar i) f) (sFld W.K (tVar 0) (tVar j) g) { nx := fun _ H' => Q .non H', rt := Q }, rt := Q } ⟨w, start_slots N r0⟩ ⟨Keep.refl _, fun _ z => z, fun a z y => absurd z y⟩
    ⟨fun M' σ δ H' p' e' hN => ?_, fun _ _ _ _ _ _ z => z.elim, fun _ _ _ _ _ _ z => z.elim, fun _ _ _ _ _ _ z => z.elim, fun M' σ' δ' H' cls d y p' e' rx hX => qx cls d y H' p'.wf.g (fun a o _ ns ho => e'.k a o ns ho) (rx.anti e'.m) hX⟩
  obtain ⟨y, z, h0, hi, hj, hP⟩ := hN
  obtain ⟨v0, s0, q0⟩ := p'.sl.get 0 _ h0
  cases q0
  obtain ⟨v1, s1, q1⟩ := p'.sl.get i _ hi
  obtain ⟨v2, s2, q2⟩ := p'.sl.get j _ hj
  have hx' := e'.k x _ ns hx
  refine ⟨v1, s1, _, s0, x, C, dx, [], rfl, hx', c1, c2, by decide, ?_⟩
  refine ⟨v2, s2, _, s0, x, C, dx, [(f, v1)], rfl, upd_same, c1, c3, by show 1 < 1000; decide, ?_⟩
  have ep : putF g v2 [(f, v1)] = [(f, v1), (g, v2)] := by
    show (if f = g then _ else (f, v1) :: putF g v2 []) = _
    rw [if_neg hfg]
    rfl
  show Q .non (upd (upd H' x (.ins C dx (putF f v1 []))) x (.ins C dx (putF g v2 [(f, v1)])))
  rw [upd_upd, ep]
  have hM : M' x := e'.m x mx
  have isL : ∀ s, W.s = some s → s ≠ x := fun s hs e => ns (by rw [hs, e])
  have gg : StOk W (upd H' x (.ins C dx [(f, v1), (g, v2)])) := fun s hs => by
    obtain ⟨n1, i1, c1, m1, a1, a2, a3, a4⟩ := p'.wf.g s hs
    refine ⟨n1, i1, c1, m1, by rw [upd_ne (isL s hs)]; exact a1, a2, ?_, a4⟩
    rw [upd_ne (ne_of a3 hx' (by intro z; cases z))]
    exact a3
  have up : ∀ {v : V} {d : D}, Rep W M' H' v d → Rep W M' (upd H' x (.ins C dx [(f, v1), (g, v2)])) v d := fun r => r.upd (rdT_ins hx') hM
  exact q _ [(f, v1), (g, v2)] [y, z] gg (fun a o na nsa ho => by rw [upd_ne na]; exact e'.k a o nsa ho) upd_same ((Reps.cons (up q1) (.cons (up q2) .nil)).anti e'.m) hP
/-- the last rows of an __init__ of three fields, the third of which comes of a call that may raise -/
theorem init_body3 {K : PySem.W.Frag} {F : FI} {G : FX} {vs : List V} {H : Hp} {Q : VK} {E : XK} {N : List Str} {t1 t2 : TS} {ta : TA} {f g k : Str} {i j : Nat} (h : spInit K F vs H Q E) (hfg : f ≠ g) (hfk : f ≠ k) (hgk : g ≠ k)
    (hb : ∀ W C (x : Addr) ds P X, W.K = K → F C ds P X → Cls K C ∧ NoAttr K C f ∧ NoAttr K C g ∧ NoAttr K C k ∧ SX W (fun cls d _ H => E cls d H) (tSeq t1 t2) (startD N.length (.obj x :: ds)) (fun δ => ∃ y z, δ[0]? = some (some (.obj x)) ∧ δ[i]? = some (some y) ∧ δ[j]? = some (some z) ∧
      EvA W ta δ fun ds => G ds (fun d => P [f, g, k] [y, z, d]) X) (fun _ => False) (fun _ => False) (fun _ => False) (fun x _ => X x)) :
    tSeq t1 (tSeq t2 (tSeq (sFld K (tVar 0) (tVar i) f) (tSeq (sFld K (tVar 0) (tVar j) g) (sFld K (tVar 0) (tCallS (spX K G) (WE fun cls d _ H => E cls d H) ta) k)))) { nx := fun _ H' => Q .non H', rt := Q } (L2.start N vs) H := by
  obtain ⟨W, M, x, dx, C, ws, ds, P, X, rfl, e, w, mx, ns, hx, r, hF, q, qx⟩ := h
  obtain ⟨c1, c2, c3, c4, hS⟩ := hb W C x ds P X e hF
  subst e
  have r0 : Reps W M H (.ref x :: ws) (.obj x :: ds) := .cons (.obj x) r
  refine hS M H M _ H { nx := tSeq (sFld W.K (tVar 0) (tVar i) f) (tSeq (sFld W.K (tVar 0) (tVar j) g) (sFld W.K (tVar 0) (tCallS (spX W.K G) (WE fun cls d _ H => E cls d H) ta) k)) { nx := fun _ H' => Q .non H', rt := Q }, rt := Q } ⟨w, start_slots N r0⟩ ⟨Keep.refl _, fun _ z => z, fun a z y => absurd z y⟩
    ⟨fun M' σ δ H' p' e' hN => ?_, fun _ _ _ _ _ _ z => z.elim, fun _ _ _ _ _ _ z => z.elim, fun _ _ _ _ _ _ z => z.elim, fun M' σ' δ' H' cls d y p' e' rx hX => qx cls d y H' p'.wf.g (fun a o _ ns ho => e'.k a o ns ho) (rx.anti e'.m) hX⟩
  obtain ⟨y, z, h0, hi, hj, hE⟩ := hN
  obtain ⟨v0, s0, q0⟩ := p'.sl.get 0 _ h0
  cases q0
  obtain ⟨v1, s1, q1⟩ := p'.sl.get i _ hi
  obtain ⟨v2, s2, q2⟩ := p'.sl.get j _ hj
  have hx' := e'.k x _ ns hx
  refine ⟨v1, s1, _, s0, x, C, dx, [], rfl, hx', c1, c2, by decide, ?_⟩
  refine ⟨v2, s2, _, s0, x, C, dx, [(f, v1)], rfl, upd_same, c1, c3, by show 1 < 1000; decide, ?_⟩
  have ep : putF g v2 [(f, v1)] = [(f, v1), (g, v2)] := by
    show (if f = g then _ else (f, v1) :: putF g v2 []) = _
    rw [if_neg hfg]
    rfl
  show tCallS (spX W.K G) (WE fun cls d _ H => E cls d H) ta σ (upd (upd H' x (.ins C dx (putF f v1 []))) x (.ins C dx (putF g v2 [(f, v1)]))) _
  rw [upd_upd, ep]
  have hM : M' x := e'.m x mx
  have isL : ∀ s, W.s = some s → s ≠ x := fun s hs e => ns (by rw [hs, e])
  have stay : ∀ {fs : List (Str × V)} {Hq : Hp} {gs : List (Str × V)}, StOk W Hq → Hq x = some (.ins C dx gs) → StOk W (upd Hq x (.ins C dx fs)) := fun {fs Hq gs} go hq s hs => by
    obtain ⟨n1, i1, c1, m1, a1, a2, a3, a4⟩ := go s hs
    refine ⟨n1, i1, c1, m1, by rw [upd_ne (isL s hs)]; exact a1, a2, ?_, a4⟩
    rw [upd_ne (ne_of a3 hq (by intro z; cases z))]
    exact a3
  have up : ∀ {fs : List (Str × V)} {Hq : Hp} {gs : List (Str × V)} {v : V} {d : D}, Hq x = some (.ins C dx gs) → Rep W M' Hq v d → Rep W M' (upd Hq x (.ins C dx fs)) v d := fun hq r => r.upd (rdT_ins hq) hM
  have hat : upd H' x (.ins C dx [(f, v1), (g, v2)]) x = some (.ins C dx [(f, v1), (g, v2)]) := upd_same
  have p2 : Pre W M' δ σ (upd H' x (.ins C dx [(f, v1), (g, v2)])) := ⟨⟨stay p'.wf.g hx', p'.wf.sm, fun a ha => by
    by_cases e : a = x
    · exact ⟨_, by rw [e]; exact hat⟩
    · obtain ⟨o, ho⟩ := p'.wf.dom a ha
      exact ⟨o, by rw [upd_ne e]; exact ho⟩⟩, p'.sl.len, fun jj d hd => by
    obtain ⟨v, a1, a2⟩ := p'.sl.get jj d hd
    exact ⟨v, a1, up hx' a2⟩⟩
  refine hE M' σ _ p2 _ fun vs3 ds3 H3 g3 k3 r3 h3 => ⟨W, M', ds3, _, X, rfl, ⟨g3, p2.wf.sm, fun a ha => (p2.wf.next g3 k3).dom a ha⟩, r3, h3, fun v3 d3 H4 g4 k4 r4 hP => ?_, fun cls d y H4 g4 k4 rx hX => ?_⟩
  · have k34 := k3.trans k4
    have hx4 : H4 x = some (.ins C dx [(f, v1), (g, v2)]) := k34 x _ ns hat
    refine ⟨_, s0, x, C, dx, _, rfl, hx4, c1, c4, by show 2 < 1000; decide, ?_⟩
    have ek : putF k v3 [(f, v1), (g, v2)] = [(f, v1), (g, v2), (k, v3)] := by
      show (if f = k then _ else (f, v1) :: (if g = k then _ else (g, v2) :: putF k v3 [])) = _
      rw [if_neg hfk, if_neg hgk]
      rfl
    rw [ek]
    have w4 := (p2.wf.next g3 k3).next g4 k4
    have old : ∀ {v : V} {d : D}, Rep W M' H' v d → Rep W M' (upd H4 x (.ins C dx [(f, v1), (g, v2), (k, v3)])) v d := fun r => up hx4 (((up hx' r).keep p2.wf k3).keep (p2.wf.next g3 k3) k4)
    refine q _ [(f, v1), (g, v2), (k, v3)] [y, z, d3] (stay g4 hx4) (fun a o na nsa ho => ?_) upd_same ((Reps.cons (old q1) (.cons (old q2) (.cons (up hx4 r4) .nil))).anti e'.m) hP
    rw [upd_ne na]
    exact k34 a o nsa (by rw [upd_ne na]; exact e'.k a o nsa ho)
  · refine qx cls d y H4 g4 (fun a o na nsa ho => ?_) (rx.anti e'.m) hX
    exact (k3.trans k4) a o nsa (by rw [upd_ne na]; exact e'.k a o nsa ho)
end PD
namespace PD
open PySem PySem.Spec PyProof.Rows L2
open RZ (iZipA ItzT)
open PDX PDI
def clsBody : Stmt → List Stmt
  | .ClassDef _ _ _ b _ _ _ _ _ _ _ => b
  | _ => []
def mthS (s : Stmt) (j : Nat) : Stmt := (clsBody s).getD j (.Pass ⟨0, 0, 0, 0⟩)
/-- a class's own def -/
structure DefM (K : PySem.W.Frag) (x qual : Str) (st : Stmt) (ps : List Str) where
  f : Addr
  d : FuncData
  F : L2.Fun K x qual st f d
  b : Binds K d ps []
/-- an exception class that stands under its name -/
structure ExcT (K : PySem.W.Frag) (mg : Str → Option Value) (x : Str) (fI : Addr) where
  C : Addr
  g : mg x = some (.ref C)
  o : OexC K C
  i : PySem.W.findIn K (.ref C) "__init__" = some (some (.ref fI))
/-- an instance's class: what isinstance asks -/
structure OCls (K : PySem.W.Frag) (C : Addr) : Prop where
  cl : Cls K C
  ha : PySem.W.findIn K (.ref C) "__class__" = some (some (.builtin "object.__class__"))
  hn : PySem.W.specialIn K (.builtin "object.__class__") "__get__" = some (some (.builtin "getset_descriptor.__get__"))
  ht : PySem.W.takesIn K (.builtin "object.__class__") = some true
  hm : PySem.W.mroIn K C (.type "object") = some true
  kI : PySem.W.kitOne K (.ref C) (.type "int") = some false
  kB : PySem.W.kitOne K (.ref C) (.type "bool") = some false
  kT : PySem.W.kitOne K (.ref C) (.type "tuple") = some false
  kS : PySem.W.kitOne K (.ref C) (.type "str") = some false
/-- a class whose objects are made -/
structure ClsT (K : PySem.W.Frag) (mg : Str → Option Value) (x : Str) (fI : Addr) where
  C : Addr
  g : mg x = some (.ref C)
  m : Mk K C fI
  o : OCls K C
mutual
def Jd (K : PySem.W.Frag) : D → Prop
  | .ins C _ _ => OCls K C
  | .tup xs => JdA K xs
  | .lst xs => JdA K xs
  | .ty _ => False
  | .st => False
  | .obj _ => False
  | .exc _ _ _ _ => False
  | .xob _ _ _ => False
  | _ => True
def JdA (K : PySem.W.Frag) : List D → Prop
  | [] => True
  | x :: xs => Jd K x ∧ JdA K xs
end
def Jd1 (K : PySem.W.Frag) : D → Prop
  | .ins C _ _ => OCls K C
  | x => x.tyName.isSome = true
theorem jd_ty {K : PySem.W.Frag} {x : D} (h : Jd K x) : Jd1 K x := by
  cases x <;> first | rfl | (simp only [Jd] at h; done) | (simp only [Jd] at h; exact h)
theorem jd_mem {K : PySem.W.Frag} {xs : List D} (h : JdA K xs) {x : D} (hx : x ∈ xs) : Jd K x := by
  induction xs with
  | nil => cases hx
  | cons y ys ih =>
    simp only [JdA] at h
    rcases List.mem_cons.mp hx with rfl | hx
    · exact h.1
    · exact ih h.2 hx
theorem jdA_of {K : PySem.W.Frag} {xs : List D} (h : ∀ x ∈ xs, Jd K x) : JdA K xs := by
  induction xs with
  | nil => simp only [JdA]
  | cons y ys ih =>
    simp only [JdA]
    exact ⟨h y List.mem_cons_self, ih fun x hx => h x (List.mem_cons_of_mem _ hx)⟩
section
variable {W : Wd} {δ : DS} {P : D → Prop} {ta : TA}
theorem tyxO {M : Addr → Prop} {H : Hp} {v : V} {C : Addr} {ns : List Str} {ds : List D} (o : OCls W.K C) (r : Rep W M H v (.ins C ns ds)) : TyX W.K H v (.ref C) := by
  cases r with
  | ins n e _ _ => exact .base (.ins e o.cl o.ha o.hn o.ht o.hm)
theorem rc_isiO {C : Addr} {ns : List Str} {ds : List D} {n : String} (o : OCls W.K C) (hk : PySem.W.kitOne W.K (.ref C) (.type n) = some false) (h : P (.bl false)) : RCD W (rIsi W.K) [.ins C ns ds, .ty n] P := fun M H vs w r Q q => by
  cases r with
  | cons r1 r2 =>
    cases r2 with
    | cons r2 r3 =>
      cases r3
      cases r2
      exact ⟨_, _, _, _, false, rfl, .ty n, tyxO o r1, hk, q _ _ H w.g (Keep.refl H) (.bl false) h⟩
theorem rc_isiIJ {x : D} (hx : Jd1 W.K x) (h : P (.bl (x.isInt || x.isBl))) : RCD W (rIsi W.K) [x, .ty "int"] P := by
  cases x with
  | ins C ns ds => exact rc_isiO hx hx.kI h
  | _ => exact rc_isiI hx h
theorem rc_isiBJ {x : D} (hx : Jd1 W.K x) (h : P (.bl x.isBl)) : RCD W (rIsi W.K) [x, .ty "bool"] P := by
  cases x with
  | ins C ns ds => exact rc_isiO hx hx.kB h
  | _ => exact rc_isiB hx h
theorem rc_isiTJ {x : D} (hx : Jd1 W.K x) (h : P (.bl x.isTup)) : RCD W (rIsi W.K) [x, .ty "tuple"] P := by
  cases x with
  | ins C ns ds => exact rc_isiO hx hx.kT h
  | _ => exact rc_isiT hx h
theorem newU {M : Addr → Prop} {H : Hp} {p : Addr} {kvs : List (Key × V)} (w : Wf W M H) (hp : H p = none) : StOk W (upd H p (.dK kvs)) ∧ Keep W H (upd H p (.dK kvs)) ∧ Rep W M (upd H p (.dK kvs)) (.ref p) .dct :=
  ⟨w.g.new hp, Keep.new hp, .dct (fun m => by
    obtain ⟨o, ho⟩ := w.dom p m
    rw [hp] at ho
    cases ho) upd_same⟩
theorem ev_dnew (h : P .dct) : EvD W tDNewK δ P := fun M σ H p Q q a ha => by
  obtain ⟨x1, x2, x3⟩ := newU (kvs := []) p.wf ha
  exact q _ _ _ x1 x2 x3 h
theorem ev_disp1 {i j : Int} (h : P .dct) : EvD W (tDisp [(tC (.int i), tC (.int j))]) δ P := fun M σ H p Q q a ha => by
  refine ⟨upd_same, [(.inl i, .int j)], rfl, by show 1 ≤ 15; decide, ?_⟩
  rw [upd_upd]
  obtain ⟨x1, x2, x3⟩ := newU (kvs := mergeK [] [(.inl i, .int j)]) p.wf ha
  exact q _ _ _ x1 x2 x3 h
theorem op_repTK {X : Cx} {K : PySem.W.Frag} (h : X.K = K) : OpR X (binaryOp .Mult) (rRepT K) := by subst h; exact op_repT
theorem reps_flat {M : Addr → Prop} {H : Hp} {vs : List V} {ds : List D} (r : Reps W M H vs ds) : ∀ n : Nat, Reps W M H (List.replicate n vs).flatten (List.replicate n ds).flatten
  | 0 => .nil
  | n + 1 => by
    rw [List.replicate_succ, List.replicate_succ, List.flatten_cons, List.flatten_cons]
    exact r.append (reps_flat r n)
theorem rd_repT {xs : List D} {k : Int} (hne : xs ≠ []) (h2 : 2 ≤ k) (hk : k ≤ 1000) (hl : xs.length ≤ 1000) (h : P (.tup (List.replicate k.toNat xs).flatten)) : RD W (rRepT W.K) (.tup xs) (.int k) P := fun M H v u w r1 r2 Q q => by
  cases r2
  cases r1 with
  | @tup a vs ds hs hr =>
    refine ⟨a, k, vs, rfl, rfl, hs, fun e => hne ?_, h2, hk, by rw [hr.length]; exact hl, fun p hp => ?_⟩
    · subst e
      cases hr
      rfl
    · obtain ⟨x1, x2, x3⟩ := newT w (reps_flat hr k.toNat) hp
      exact q _ _ _ x1 x2 x3 h
/-- a part of a slice -/
def EvO (W : Wd) (to : TO) (δ : DS) (P : Option Int → Prop) : Prop := ∀ (M : Addr → Prop) (σ : L2.St) (H : Hp), Pre W M δ σ H → ∀ Q : Option Int → Hp → Prop, (∀ o H', StOk W H' → Keep W H H' → P o → Q o H') → to σ H Q
theorem eo_none {P : Option Int → Prop} (h : P none) : EvO W tNoPart δ P := fun M σ H p Q q => q none H p.wf.g (Keep.refl H) h
theorem eo_some {P : Option Int → Prop} {te : TE} (h : EvD W te δ fun d => ∃ i, d = .int i ∧ P (some i)) : EvO W (tPart te) δ P := fun M σ H p Q q => h M σ H p _ fun v d H1 g1 k1 r1 h1 => by
  obtain ⟨i, rfl, hP⟩ := h1
  cases r1
  exact ⟨i, rfl, q (some i) H1 g1 k1 hP⟩
def cutD (xs : List D) (lo hi : Option Int) : List D := (xs.drop (HT.sIx xs.length 0 lo)).take (HT.sIx xs.length xs.length hi - HT.sIx xs.length 0 lo)
theorem Reps.drop {M : Addr → Prop} {H : Hp} : ∀ {vs : List V} {ds : List D} (n : Nat), Reps W M H vs ds → Reps W M H (vs.drop n) (ds.drop n)
  | _, _, 0, r => by rw [List.drop_zero, List.drop_zero]; exact r
  | _, _, _ + 1, .nil => .nil
  | _, _, n + 1, .cons _ t => Reps.drop n t
theorem Reps.take {M : Addr → Prop} {H : Hp} : ∀ {vs : List V} {ds : List D} (n : Nat), Reps W M H vs ds → Reps W M H (vs.take n) (ds.take n)
  | _, _, 0, _ => by rw [List.take_zero, List.take_zero]; exact .nil
  | _, _, _ + 1, .nil => .nil
  | _, _, n + 1, .cons r t => .cons r (Reps.take n t)
theorem cut_all {xs : List D} {lo hi : Option Int} (h : HT.sIx xs.length 0 lo = 0 ∧ HT.sIx xs.length xs.length hi = xs.length) : cutD xs lo hi = xs := by
  unfold cutD
  rw [h.1, h.2, List.drop_zero, Nat.sub_zero, List.take_length]
theorem ev_sl {te : TE} {tl th : TO} (h : EvD W te δ fun x => ∃ xs, x = .tup xs ∧ EvO W tl δ fun lo => EvO W th δ fun hi => P (.tup (cutD xs lo hi))) : EvD W (tSl (rSlA W.K) te tl th) δ P := fun M σ H p Q q =>
  h M σ H p _ fun v x H1 g1 k1 r1 h1 => by
    obtain ⟨xs, rfl, h1⟩ := h1
    have p1 := p.next g1 k1
    refine h1 M σ H1 p1 _ fun lo H2 g2 k2 h2 => ?_
    have p2 := p1.next g2 k2
    refine h2 M σ H2 p2 _ fun hi H3 g3 k3 h3 => ?_
    have p3 := p2.next g3 k3
    have r3 := (r1.keep p1.wf k2).keep p2.wf k3
    cases r3 with
    | @tup a vs ds hs hr =>
      have hl := hr.length
      refine ⟨a, vs, rfl, hs, fun z => ?_, fun z l hn => ?_⟩
      · refine q _ _ H3 g3 ((k1.trans k2).trans k3) (.tup hs hr) ?_
        rw [hl] at z
        have e : P (.tup (cutD xs lo hi)) := h3
        rw [cut_all z] at e
        exact e
      · have rr : Reps W M H3 (cutV vs lo hi) (cutD xs lo hi) := by
          unfold cutV cutD
          rw [hl]
          exact (hr.drop _).take _
        obtain ⟨x1, x2, x3⟩ := newT p3.wf rr hn
        exact q _ _ _ x1 (((k1.trans k2).trans k3).trans x2) x3 h3
end
end PD
namespace PD
open PySem PySem.Spec PyProof.Rows L2
open PDX PDI
def clB (K : PySem.W.Frag) (C fI : Addr) : Bool := PySem.W.plainGet K C Str.empty && PySem.W.hasDictIn K C && PySem.W.plainOver K C && decide (PySem.W.findIn K (.ref C) "__setattr__" = some (some (.builtin "object.__setattr__"))) &&
  decide (PySem.W.findIn K (.ref C) "__class__" = some (some (.builtin "object.__class__"))) && decide (PySem.W.specialIn K (.builtin "object.__class__") "__get__" = some (some (.builtin "getset_descriptor.__get__"))) &&
  decide (PySem.W.takesIn K (.builtin "object.__class__") = some true) && decide (PySem.W.mroIn K C (.type "object") = some true) && decide (PySem.W.kitOne K (.ref C) (.type "int") = some false) &&
  decide (PySem.W.kitOne K (.ref C) (.type "bool") = some false) && decide (PySem.W.kitOne K (.ref C) (.type "tuple") = some false) && decide (PySem.W.kitOne K (.ref C) (.type "str") = some false) && PySem.W.makesIn K C && decide (PySem.W.findIn K (.ref C) "__init__" = some (some (.ref fI))) && PySem.W.isFn K (.ref fI) && PySem.W.keepIn K (.ref C)
theorem cls_of {K : PySem.W.Frag} {C fI : Addr} (q : clB K C fI = true) : OCls K C ∧ Mk K C fI := by
  unfold clB at q
  simp only [Bool.and_eq_true, decide_eq_true_eq] at q
  obtain ⟨⟨⟨⟨⟨⟨⟨⟨⟨⟨⟨⟨⟨⟨⟨h1, h2⟩, h3⟩, h4⟩, h5⟩, h6⟩, h7⟩, h8⟩, h9⟩, h10⟩, h11⟩, h11'⟩, h12⟩, h13⟩, h14⟩, h15⟩ := q
  exact ⟨⟨⟨h1, h2, h3, h4⟩, h5, h6, h7, h8, h9, h10, h11, h11'⟩, h12, h13, h14, h15⟩
def emB (K : PySem.W.Frag) (a b : Addr) (x : Bool) : Bool := decide (PySem.W.exmOne K (.ref a) (.ref b) = some x)
theorem em_of {K : PySem.W.Frag} {a b : Addr} {x : Bool} (h : emB K a b x = true) : PySem.W.exmOne K (.ref a) (.ref b) = some x := @of_decide_eq_true _ _ h
def D.isNon : D → Bool
  | .non => true
  | _ => false
section
variable {W : Wd} {P : D → Prop}
theorem rep_non {M : Addr → Prop} {H : Hp} {v : V} {x : D} (r : Rep W M H v x) : decide (v = V.non) = x.isNon := by
  cases r <;> first | rfl | exact decide_eq_false (by intro z; cases z)
theorem rd_isN {x : D} (h : P (.bl x.isNon)) : RD W (fun x y H Q => y = V.non ∧ Q (V.bl (decide (x = V.non))) H) x .non P := fun M H v u w r1 r2 Q q => by
  cases r2
  refine ⟨rfl, ?_⟩
  rw [rep_non r1]
  exact q _ _ H w.g (Keep.refl H) (.bl _) h
theorem rd_notN {x : D} (h : P (.bl (!x.isNon))) : RD W (fun x y H Q => y = V.non ∧ Q (V.bl (!decide (x = V.non))) H) x .non P := fun M H v u w r1 r2 Q q => by
  cases r2
  refine ⟨rfl, ?_⟩
  rw [rep_non r1]
  exact q _ _ H w.g (Keep.refl H) (.bl _) h
end
/-- what the __init__ of the first class of the errors keeps -/
theorem init0_body {K : PySem.W.Frag} {vs : List V} {H : Hp} {Q : VK} {E : XK} {N : List Str} (h : spI0 K vs H Q E) : tDrop (tVeI K (tCons (tVar 0) tNil)) { nx := fun _ H' => Q .non H', rt := Q } (L2.start N vs) H := by
  obtain ⟨a, C, rfl, hC, e, q⟩ := h
  refine ⟨.ref a, rfl, a, C, [], rfl, Nat.zero_le _, hC, e, q⟩
end PD
namespace PDT
open PySem PySem.Spec L2 PyProof.Rows
/-- a clause: the slot of its name, the class, the suite's reading -/
abbrev Cl := Option Nat × Value × (Addr → Value → Option Addr → TS)
def slotOf (o : Option Nat) (a : Addr) (σ : L2.St) : L2.St := match o with
  | none => σ
  | some i => σ.set i (some (.ref a))
def lessOf (o : Option Nat) (σ : L2.St) : L2.St := match o with
  | none => σ
  | some i => σ.set i none
/-- the ends of a suite: the name goes -/
def endsOf (o : Option Nat) (D : Ends) : Ends := { nx := fun σ H => D.nx (lessOf o σ) H, rt := D.rt, bk := fun σ H => D.bk (lessOf o σ) H, ct := fun σ H => D.ct (lessOf o σ) H }
def wCl (K : PySem.W.Frag) (Wout : WX) (D : Ends) : List Cl → WX
  | [] => Wout
  | cl :: more => fun cls d σ H => ∃ yes, PySem.W.exmOne K cls cl.2.1 = some yes ∧ (yes = true → ∀ a, H a = none → cl.2.2 a cls d (endsOf cl.1 D) (slotOf cl.1 a σ) H) ∧ (yes = false → wCl K Wout D more cls d σ H)
/-- a clause's suite, read -/
def SuiteOk (X : Cx) (body : List Stmt) (ts : Addr → Value → Option Addr → TS) : Prop := ∀ (a : Addr) (oe : Obj) (cls : Value) (d : Option Addr) (pn : List (Addr × Obj)), Zc cls d oe → (∃ vs, oe.data = .fields vs) → PSs (X.suite a ((a, oe) :: pn)) body (ts a cls d)
inductive Clauses (X : Cx) : List ExceptHandler → List Cl → Prop
  | done : Clauses X [] []
  | plain {x : Str} {c : Value} {ts : Addr → Value → Option Addr → TS} {st : Stmt} {sts : List Stmt} {p q : Pos} {hs : List ExceptHandler} {cs : List Cl} :
      Names X x c → SuiteOk X (st :: sts) ts → Clauses X hs cs → Clauses X (.ExceptHandler (some (.Name x p)) none (st :: sts) q :: hs) ((none, c, ts) :: cs)
  | named {x n : Str} {i : Nat} {c : Value} {ts : Addr → Value → Option Addr → TS} {st : Stmt} {sts : List Stmt} {p q : Pos} {hs : List ExceptHandler} {cs : List Cl} :
      Names X x c → X.N[i]? = some n → X.env.kindOf n = some .local → SuiteOk X (st :: sts) ts → Clauses X hs cs → Clauses X (.ExceptHandler (some (.Name x p)) (some n) (st :: sts) q :: hs) ((some i, c, ts) :: cs)
section
variable {X : Cx} {pins : List (Addr × Obj)} {σ : L2.St} {H : Hp} {cls : Value} {d : Option Addr} {a : Addr} {B h : Heap} {sI s' : Shared} {D : Ends}
/-- caught: the exception lies at a in h; without it there was sI -/
structure Lies (X : Cx) (pins : List (Addr × Obj)) (σ : L2.St) (H : Hp) (cls : Value) (d : Option Addr) (a : Addr) (B : Heap) (sI s' : Shared) (h : Heap) : Prop where
  inv : L2.Inv X pins σ H sI
  off : ∀ b o, sI.heap.get? b = some o → b ∉ frs X.stack → B.get? b = some o
  up : sI.heap.UpToSlots h
  fly : HandSPX.FlyingZ B (X.env :: X.outer) a (Zc cls d) h
  new : H a = none
  os : s'.os = sI.os
  bare : AllBare s'.gens
theorem Lies.now (L : Lies X pins σ H cls d a B sI s' h) : L2.Inv X pins σ H { s' with heap := h } := L.inv.landed L.off L.fly.1 L.up L.os L.bare
theorem Lies.in_suite (L : Lies X pins σ H cls d a B sI s' h) (hf : X.env.frame = some X.env.locals) :
    ∃ oe, h.get? a = some oe ∧ Zc cls d oe ∧ (∃ vs, oe.data = .fields vs) ∧ L2.Inv (X.suite a ((a, oe) :: (X.pn ++ pins))) [] σ H { s' with heap := h } := by
  obtain ⟨oe, vs, at_a, z, dat⟩ := L.fly.there
  have apart : ∀ e ∈ X.env :: X.outer, e.frame ≠ some a := fun e me z => by
    obtain ⟨_, o2, h2, far⟩ := L.fly.2.2.1.mem (List.mem_filterMap.mpr ⟨e, me, z⟩)
    rw [at_a] at h2
    cases h2
    exact far _ dat
  refine ⟨oe, at_a, z, ⟨vs, dat⟩, L.now.suite at_a dat L.new (fun z => apart _ List.mem_cons_self (by rw [hf, z])) fun m => ?_⟩
  obtain ⟨e, me, z⟩ := List.mem_filterMap.mp m
  exact apart e (List.mem_cons_of_mem _ me) z
/-- the class that a clause names, and whether it is this one -/
theorem Lies.asks {x : Str} {c : Value} {yes : Bool} {p : Pos} {n : Option Str} {st : Stmt} {sts : List Stmt} {q : Pos} {hs : List ExceptHandler} {Q : Flow → Shared → Prop} (L : Lies X pins σ H cls d a B sI s' h) (hf : X.env.frame = some X.env.locals) (hc : Names X x c)
    (hy : PySem.W.exmOne X.K cls c = some yes)
    (go : yes = true → codeAny (model X.prog X.w) (X.A.mark (some (.ref a))) (.handlers (.ref a) [.ExceptHandler none n (st :: sts) q] X.env) (fun r t => match r with
      | .ok f => (match n with
        | none => Q f t
        | some n => wpAny (model X.prog X.w) X.A (do bindName X.env n .none; unbindBehindTheSuite X.env n q) (fun _ u => Q f u) X.xe t)
      | .error e => cameBackBy (model X.prog X.w) X.A X.env X.xe e t) { s' with heap := h })
    (on : yes = false → wpAny (model X.prog X.w) X.A (handleBy (.ref a) X.env hs) Q X.xe { s' with heap := h }) :
    wpAny (model X.prog X.w) X.A (handleBy (.ref a) X.env (.ExceptHandler (some (.Name x p)) n (st :: sts) q :: hs)) Q X.xe { s' with heap := h } := by
  obtain ⟨oe, at_a, z, _, I⟩ := L.in_suite hf
  have kind : PySem.W.Looks (model X.prog X.w) h (typeOf (.ref a)) cls := fun _ _ _ _ k m => wpAny_typeOf_ref (k _ _ at_a) (z.1 ▸ m)
  have told := (PySem.W.exm_one L.now.kIn kind hy)
  refine wpAny_handleBy_cons (codeAny_handlers_test ?_) (fun m => by cases m)
  have named : ∀ {R S : Value → Shared → Prop}, R c { s' with heap := h } → wpAny (model X.prog X.w) (X.A.mark (some (.ref a))) (eval (.Name x p) X.env) R S { s' with heap := h } := fun r => by
    rcases hc with ⟨g, nd, here | ⟨none, boot, nn⟩⟩
    · exact ld_glob I g here r nd
    · exact ld_blt I g none boot r nn nd
  refine named (told.here ?_)
  cases yes
  · exact on rfl
  · exact go rfl
/-- the suite of a clause that fits, from where it stands -/
theorem Lies.suite {ts : Addr → Value → Option Addr → TS} {st : Stmt} {sts : List Stmt} {σ' : L2.St} {oe : Obj} {s6 : Shared} {E' : Ends} {R : Flow → Shared → Prop} {F : Value → Shared → Prop} (ok : X.Ok) (hS : SuiteOk X (st :: sts) ts) (z : Zc cls d oe) (f : ∃ vs, oe.data = .fields vs)
    (I : L2.Inv (X.suite a ((a, oe) :: (X.pn ++ pins))) [] σ' H s6) (w : ts a cls d E' σ' H)
    (nx : ∀ σ H t, L2.Inv X pins σ H t → E'.nx σ H → R .next t) (bk : ∀ σ H t, L2.Inv X pins σ H t → E'.bk σ H → R .brk t) (ct : ∀ σ H t, L2.Inv X pins σ H t → E'.ct σ H → R .cont t)
    (rt : ∀ v u σ H t, L2.Inv X pins σ H t → RelV v u → E'.rt v H → R (.ret u) t) :
    wpAny (model X.prog X.w) (X.A.mark (some (.ref a))) (execs (st :: sts) X.env) R F s6 := by
  refine wpAny_mono ((hS a oe cls d (X.pn ++ pins) z f).run [] s6 σ' H E' I w) (fun fl t got => ?_) fun _ _ no => no.elim
  cases fl with
  | next => obtain ⟨_, _, J, e⟩ := got; exact nx _ _ _ (J.unsuite ok) e
  | brk => obtain ⟨_, _, J, e⟩ := got; exact bk _ _ _ (J.unsuite ok) e
  | cont => obtain ⟨_, _, J, e⟩ := got; exact ct _ _ _ (J.unsuite ok) e
  | ret u => obtain ⟨_, _, _, J, r, e⟩ := got; exact rt _ _ _ _ _ (J.unsuite ok) r e
/-- all clauses of a try, in their order -/
theorem Lies.clauses {Wout : WX} {hs : List ExceptHandler} {cs : List Cl} (L : Lies X pins σ H cls d a B sI s' h) (stk : X.stack = X.env :: X.outer) (hf : X.env.frame = some X.env.locals) (nd : X.N.Nodup) (tk : Takes X Wout) (hk : Clauses X hs cs) :
    wCl X.K Wout D cs cls d σ H → wpAny (model X.prog X.w) X.A (handleBy (.ref a) X.env hs) (SP X pins D) X.xe { s' with heap := h } := by
  have ok := L.inv.ok
  -- the flight is turned down once more, then the suite runs
  have land : ∀ {Q : Unit → Shared → Prop} {F : Value → Shared → Prop}, (∀ g, Lies X pins σ H cls d a B sI s' g → Q () { s' with heap := g }) → wpAny (model X.prog X.w) (X.A.mark (some (.ref a))) (setFlight (.ref a) none) Q F { s' with heap := h } := fun k =>
    HandSPX.lands_againZ L.fly fun g fl more => k g ⟨L.inv, L.off, L.up.trans more, fl, L.new, L.os, L.bare⟩
  induction hk with
  | done =>
    intro w
    obtain ⟨oe, vs, T, oT, tr, at_a, z, dat, f1, far⟩ := L.fly.2.2.2
    refine wpAny_handleBy_nil ?_
    show wpAny (model X.prog X.w) X.A (PySem.passOn "try.no-clause-matches" (.ref a) X.env) _ _ _
    delta PySem.passOn
    refine wpAny_bind (wpAny_field at_a dat f1 ?_)
    have away : wpAny (model X.prog X.w) X.A (setFlight (.ref a) X.env.frame) (fun _ t => wpAny (model X.prog X.w) X.A (throw (.ref a) : Sem Flow) (SP X pins D) X.xe t) X.xe { s' with heap := h } := by
      rw [hf]
      refine HandSPX.setFlight_upZ L.fly fun g held more => wpAny_throw (tk _ _ ⟨a, B, sI, pins, σ, H, cls, d, rfl, L.inv, L.off, L.up.trans more, ?_, L.new, L.os, L.bare, w⟩)
      rw [stk]
      exact .inr (.inr held)
    have tr : ¬ ((Value.ref T == Value.none) = true) := by simp
    first
      | (rw [if_neg tr]; exact wpAny_bind (wpAny_pure (wpAny_bind away)))
      | (rw [if_neg tr]; exact wpAny_bind away)
  | plain hc hS _ next =>
    rintro ⟨yes, hy, w1, w0⟩
    refine L.asks hf hc hy (fun e => codeAny_handlers_suite (land fun g Lg => ?_)) fun e => next (w0 e)
    obtain ⟨oe, _, z, f, I⟩ := Lg.in_suite hf
    exact Lies.suite ok hS z f I (w1 e a L.new) (fun _ _ _ J m => ⟨_, _, J, m⟩) (fun _ _ _ J m => ⟨_, _, J, m⟩) (fun _ _ _ J m => ⟨_, _, J, m⟩) fun _ _ _ _ _ J r m => ⟨_, _, _, J, r, m⟩
  | @named x n i c ts st sts p q hs cs hc hi hl hS _ next =>
    rintro ⟨yes, hy, w1, w0⟩
    refine L.asks hf hc hy (fun e => codeAny_handlers_suite_as (land fun g Lg => ?_)) fun e => next (w0 e)
    obtain ⟨oe, _, z, f, I⟩ := Lg.in_suite hf
    refine store_ok (X := X.suite a ((a, oe) :: (X.pn ++ pins))) (v := .ref a) I nd hi (.inl hl) rfl (fun t J => ?_) (.inr hl)
    have bare : ∀ {σ : L2.St} {H : Hp} {u : Shared} {Q : Unit → Shared → Prop}, L2.Inv X pins σ H u → (∀ u', L2.Inv X pins (σ.set i none) H u' → Q () u') → wpAny (model X.prog X.w) X.A (do bindName X.env n .none; unbindBehindTheSuite X.env n q) Q X.xe u := fun I k => gone_ok I nd hi hl k
    exact Lies.suite ok hS z f J (w1 e a L.new) (fun _ _ _ J m => bare J fun _ G => ⟨_, _, G, m⟩) (fun _ _ _ J m => bare J fun _ G => ⟨_, _, G, m⟩) (fun _ _ _ J m => bare J fun _ G => ⟨_, _, G, m⟩) fun _ _ _ _ _ J r m => bare J fun _ G => ⟨_, _, _, G, r, m⟩
/-- try .. except .. -/
theorem ps_tryC {body : List Stmt} {c0 : ExceptHandler} {hs : List ExceptHandler} {cs : List Cl} {pos : Pos} {tb : WX → TS} {Wout : WX} (stk : X.stack = X.env :: X.outer) (hf : X.env.frame = some X.env.locals) (nd : X.N.Nodup) (tk : Takes X Wout)
    (hb : ∀ (W : WX) (pn : List (Addr × Obj)) (xe : Value → Shared → Prop), Takes (X.tr pn xe) W → PassesOwn (model X.prog X.w) X.A X.env xe → PSs (X.tr pn xe) body (tb W)) (hk : Clauses X (c0 :: hs) cs) :
    PS X (.Try body (c0 :: hs) [] [] pos) (fun D σ H => tb (wCl X.K Wout D cs) D σ H) := ⟨fun pins s σ H D I w => by
  have ok := I.ok
  refine wpAny_Try_except (wpAny_mono ((hb (wCl X.K Wout D cs) (X.pn ++ pins) _ (fun u t up => ?_) PassesOwn.looking).run [] s σ H D (I.toTry fun e t => wpAny (model X.prog X.w) X.A (noteFrame e X.env) (fun _ t => wpAny (model X.prog X.w) X.A (setFlight e none) (fun _ t =>
    wpAny (model X.prog X.w) X.A (handleBy e X.env (c0 :: hs)) (SP X pins D) X.xe t) X.xe t) X.xe t) w) (fun f t got => ?_) fun _ _ e => e)
  · obtain ⟨a, B, sI, pins', σ', H', cls, d, rfl, J, off, more, sky, new, os, bare, wish⟩ := up
    have sk : Sky B (X.env :: X.outer) a (Zc cls d) X.env.locals t.heap := stk ▸ sky
    exact Sky.land Zc.steady (by rw [ok.frames, stk]) hf sk fun g fl m => Lies.clauses ⟨J.ofTry ok, off, more.trans m, fl, new, os, bare⟩ stk hf nd tk hk wish
  · cases f with
    | next => obtain ⟨_, _, J, e⟩ := got; exact wpAny_execs_nil ⟨_, _, J.ofTry ok, e⟩
    | brk => obtain ⟨_, _, J, e⟩ := got; exact ⟨_, _, J.ofTry ok, e⟩
    | cont => obtain ⟨_, _, J, e⟩ := got; exact ⟨_, _, J.ofTry ok, e⟩
    | ret u => obtain ⟨_, _, _, J, r, e⟩ := got; exact ⟨_, _, _, J.ofTry ok, r, e⟩⟩
end
end PDT
namespace PD
open PySem PySem.Spec PyProof.Rows L2
open PDX PDI PDT
section
variable {W : Wd} {Wx : WX} {X : XV → DS → Prop} {δ : DS} {N : DS → Prop} {R : D → Prop} {B C : DS → Prop} {ta : TA}
def ClsD (W : Wd) (Wout : WX) (l : List Cl) (x : XV) (δ : DS) (N : DS → Prop) (R : D → Prop) (B C : DS → Prop) (X : XV → DS → Prop) : Prop :=
  match l with
  | [] => X x δ
  | (o, c, ts) :: r => ∃ b, PySem.W.exmOne W.K (.ref x.1) c = some b ∧ (b = true → match o with
      | none => ∀ a cls d, SX W Wout (ts a cls d) δ N R B C XN
      | some i => (∀ a dx, SX W Wout (ts a (.ref x.1) (some dx)) (δ.set i (some (.exc a dx (x.2.map (·.1)) (x.2.map (·.2))))) (fun δ => N (δ.set i none)) R (fun δ => B (δ.set i none)) (fun δ => C (δ.set i none)) XN) ∧
          (x.2 = [] → ∀ a, SX W Wout (ts a (.ref x.1) none) (δ.set i (some (.obj a))) (fun δ => N (δ.set i none)) R (fun δ => B (δ.set i none)) (fun δ => C (δ.set i none)) XN)) ∧ (b = false → ClsD W Wout r x δ N R B C X)
theorem Pre.putD {M : Addr → Prop} {σ : L2.St} {H : Hp} (p : Pre W M δ σ H) (i : Nat) {v : V} {d : D} (r : Rep W M H v d) : Pre W M (δ.set i (some d)) (σ.set i (some v)) H := ⟨p.wf, p.sl.set i r⟩
theorem Pre.dropD {M : Addr → Prop} {σ : L2.St} {H : Hp} (p : Pre W M δ σ H) (i : Nat) : Pre W M (δ.set i none) (σ.set i none) H := ⟨p.wf, p.sl.drop i none⟩
theorem outs_less {Wout : WX} {M0 : Addr → Prop} {H0 : Hp} {E : Ends} {i : Nat} (o : Outs W Wout M0 H0 N R B C X E) :
    Outs W Wout M0 H0 (fun δ => N (δ.set i none)) R (fun δ => B (δ.set i none)) (fun δ => C (δ.set i none)) XN (endsOf (some i) E) :=
  ⟨fun M σ δ H p e h => o.nx M _ _ H (p.dropD i) e h, o.rt, fun M σ δ H p e h => o.bk M _ _ H (p.dropD i) e h, fun M σ δ H p e h => o.ct M _ _ H (p.dropD i) e h, fun _ _ _ _ _ _ _ _ _ _ z => z.elim⟩
theorem cls_ok {Wout : WX} : ∀ {l : List Cl} {x : XV} {cls : Value} {d : Option Addr} {M0 M : Addr → Prop} {H0 H : Hp} {σ : L2.St} {δ : DS} {E : Ends}, ClsD W Wout l x δ N R B C X → XRep W M H cls d x → Pre W M δ σ H → Ent W M0 H0 M H →
    Outs W Wout M0 H0 N R B C X E → wCl W.K Wout E l cls d σ H
  | [], x, cls, d, M0, M, H0, H, σ, δ, E, h, rx, p, en, o => o.xw M σ δ H cls d x p en rx h
  | (none, c, ts) :: r, x, cls, d, M0, M, H0, H, σ, δ, E, h, rx, p, en, o => by
    obtain ⟨b, h1, h2, h3⟩ := h
    refine ⟨b, by rw [rx.1]; exact h1, fun hb a _ => ?_, fun hb => cls_ok (h3 hb) rx p en o⟩
    exact h2 hb a cls d M0 H0 M σ H E p en ⟨o.nx, o.rt, o.bk, o.ct, fun _ _ _ _ _ _ _ _ _ _ z => z.elim⟩
  | (some i, c, ts) :: r, x, cls, d, M0, M, H0, H, σ, δ, E, h, rx, p, en, o => by
    obtain ⟨b, h1, h2, h3⟩ := h
    refine ⟨b, by rw [rx.1]; exact h1, fun hb a _ => ?_, fun hb => cls_ok (h3 hb) rx p en o⟩
    obtain ⟨rfl, rx⟩ := rx
    cases d with
    | none => exact (h2 hb).2 rx a M0 H0 M _ H _ (p.putD i (.obj a)) en (outs_less o)
    | some dx =>
      obtain ⟨fs, nM, hx, en2, re⟩ := rx
      exact (h2 hb).1 a dx M0 H0 M _ H _ (p.putD i (.exc nM hx en2 re)) en (outs_less o)
theorem sx_tryC {tb : WX → TS} {Wout : WX} {l : List Cl} {Xb : XV → DS → Prop} (hb : ∀ Wx, SX W Wx (tb Wx) δ N R B C Xb) (hc : ∀ x δ', Xb x δ' → ClsD W Wout l x δ' N R B C X) :
    SX W Wout (fun D σ H => tb (wCl W.K Wout D l) D σ H) δ N R B C X := fun M0 H0 M σ H E p e o =>
  hb (wCl W.K Wout E l) M0 H0 M σ H E p e ⟨o.nx, o.rt, o.bk, o.ct, fun M' σ' δ' H' cls d x p' e' rx hx => cls_ok (hc x δ' hx) rx p' e' o⟩
/-- e.f, e a caught exception -/
theorem ev_xf {a dx Cx : Addr} {f : Str} {te : TE} {P : D → Prop} (h : EvD W te δ fun x => ∃ ns ds d, x = .exc a dx ns ds ∧ (ns.zip ds).lookup f = some d ∧ P d) : EvD W (tXf a (.ref Cx) (some dx) Cx f te) δ P := fun M σ H p Q q =>
  h M σ H p _ fun v x H1 g1 k1 r1 h1 => by
    obtain ⟨ns, ds, d, rfl, hl, hP⟩ := h1
    cases r1 with
    | exc nM hx e r =>
      subst e
      obtain ⟨v, h2, h3⟩ := lookup_D r hl
      exact ⟨rfl, rfl, dx, _, v, rfl, hx, h2, q v d H1 g1 k1 h3 hP⟩
/-- C(..), C's __init__ may raise -/
def tMakeS (C : Addr) (sp : Sp) (E : L2.St → XK) (t : TA) : TE := fun σ => tMake C sp [] (E σ) t σ
theorem makeX_core {F : FI} {M0 M : Addr → Prop} {H0 H1 : Hp} {σ : L2.St} {vs : List V} {ds : List D} {E : Ends} {Q : VK} {P : D → Prop} {Cc : Addr} (p : Pre W M δ σ H1) (e : Ent W M0 H0 M H1) (r : Reps W M H1 vs ds) (o : Outs W Wx M0 H0 N R B C X E) (hF : F Cc ds (fun ns es => P (.ins Cc ns es)) fun x => X x δ)
    (hQ : ∀ v d H2, StOk W H2 → Keep W H1 H2 → Rep W M H2 v d → P d → Q v H2) : ∀ x dx, H1 x = none → H1 dx = none → dx ≠ x → spInit W.K F (.ref x :: (vs ++ [])) (upd (upd H1 dx (.own x)) x (.ins Cc dx [])) (fun v H2 => v = .non ∧ Q (.ref x) H2) (WE Wx σ) :=
  make_core p.wf r hF hQ fun cls d y H2 g2 k2 rx hx => o.xw M σ δ H2 cls d y (p.next g2 k2) (e.next k2) rx hx
theorem sx_retMk {F : FI} {Cc : Addr} (h : EvA W ta δ fun ds => F Cc ds (fun ns es => R (.ins Cc ns es)) fun x => X x δ) : SX W Wx (tRet (tMakeS Cc (spInit W.K F) (WE Wx) ta)) δ N R B C X := fun M0 H0 M σ H E p e o =>
  h M σ H p _ fun vs ds H1 g1 k1 r1 h1 => makeX_core (P := R) (p.next g1 k1) (e.next k1) r1 o h1 fun v d H2 g2 k2 r2 hR => o.rt v d H2 g2 ((e.k.trans k1).trans k2) (r2.anti e.m) hR
end
/-- the reading of such a call -/
theorem pe_makeS {X : Cx} {CX : CXT} {k : Nat} {f C : Addr} {fd : FuncData} {ps : List Str} {sp : Sp} {E : L2.St → XK} {x : Str} {p pos : Pos} {e : Expr} {es : List Expr} {t : TA} (M : Mk X.K C f) (F : FnOk X.prog X.w X.K X.mg X.base CX k f fd ps sp) (hr : Room (k + 1) X.A) (hg : Gl X x) (hm : X.mg x = some (.ref C)) (hb : Binds X.K fd ps [])
    (hx : ∀ σ, PassesAt CX X σ (E σ)) (ha : PA X (e :: es) t) (nd : (x == ("__debug__" : Str)) = false := by decide) (st : starEach (e :: es) X.env = (false, eval e X.env) :: starEach es X.env := by rfl) (pl : (backTo pos (starEach es X.env)).any (·.1) = false := by rfl) :
    PE X (.Call (.Name x p) (e :: es) [] pos) (tMakeS C sp E t) := ⟨fun pins s σ H Q I h => by
  refine wpAny_Call_Name_kw (ld_glob I hg hm (PySem.W.callWith_K (h₀ := X.base) I.ok.mod.kin M.kp (thn (ha.run pos pins s σ H _ I h) fun us t got => ?_) st pl) nd)
  obtain ⟨vs, H1, J, r, made⟩ := got
  refine ⟨J.kIn, ?_⟩
  have w := made (t.heap.objs.size + 1) t.heap.objs.size (J.hok.fresh (Nat.le_succ _)) (J.hok.fresh (Nat.le_refl _)) (Nat.succ_ne_self _).symm
  have G := Inv.made (C := C) J
  rw [List.append_nil] at w
  have rr : Vals (V.ref (t.heap.objs.size + 1) :: vs) (Value.ref (t.heap.objs.size + 1) :: us) := .cons rfl r
  have many : (Value.ref (t.heap.objs.size + 1) :: us).length = ps.length := rr.length.symm.trans (F.len _ _ _ _ w)
  have bound := hb _ (Value.ref (t.heap.objs.size + 1) :: us) G.kIn (by rw [List.append_nil]; exact many)
  rw [List.append_nil] at bound
  refine wpAny_call (make_map J.kIn M.makes M.init (beq_iff_eq.mp M.fn) (codeAny_mono (F.run _ X.stack _ _ ⟨_ :: us, []⟩ _ _ _ (E σ) (hr.make C us []) (G.env0.make C us []) bound rr w) fun r u out => ?_))
  rcases r with e | fl
  · exact hx σ pins _ _ e u G out
  · cases fl with
    | ret v =>
      obtain ⟨v, H2, I2, rv, rfl, q⟩ := G.after out
      exact ⟨rv, V.ref (t.heap.objs.size + 1), H2, I2, rfl, q⟩
    | next => cases out
    | brk => cases out
    | cont => cases out⟩
end PD
namespace PD
open PySem PySem.Spec PyProof.Rows L2
mutual
def D.lays : D → Nat → Bool
  | .non, _ | .bl _, _ | .int _, _ => true
  | .tup xs, n + 1 => D.laysA xs n
  | .lst xs, n + 1 => D.laysA xs n
  | _, _ => false
def D.laysA : List D → Nat → Bool
  | [], _ => true
  | x :: xs, n => x.lays n && D.laysA xs n
end
mutual
theorem lays_ok : ∀ {x : D} {n : Nat}, x.lays n = true → x.plain = true ∧ x.py.canLay0 = true ∧ x.py.depth ≤ n
  | .non, _, _ => by simp [D.plain, D.py, PyData.canLay0, PyData.depth]
  | .bl _, _, _ => by simp [D.plain, D.py, PyData.canLay0, PyData.depth]
  | .int _, _, _ => by simp [D.plain, D.py, PyData.canLay0, PyData.depth]
  | .tup xs, n + 1, h => by
    have e := laysA_ok (xs := xs) (n := n) (by simpa [D.lays] using h)
    simp [D.plain, D.py, PyData.canLay0, PyData.depth, e.1, e.2.1, e.2.2]
  | .lst xs, n + 1, h => by
    have e := laysA_ok (xs := xs) (n := n) (by simpa [D.lays] using h)
    simp [D.plain, D.py, PyData.canLay0, PyData.depth, e.1, e.2.1, e.2.2]
  | .tup _, 0, h => by simp [D.lays] at h
  | .lst _, 0, h => by simp [D.lays] at h
  | .str _, _, h => by simp [D.lays] at h
  | .ty _, _, h => by simp [D.lays] at h
  | .st, _, h => by simp [D.lays] at h
  | .obj _, _, h => by simp [D.lays] at h
  | .dct, _, h => by simp [D.lays] at h
  | .ins _ _ _, _, h => by simp [D.lays] at h
  | .exc _ _ _ _, _, h => by simp [D.lays] at h
  | .xob _ _ _, _, h => by simp [D.lays] at h
  | .dic _ _, _, h => by simp [D.lays] at h
theorem laysA_ok : ∀ {xs : List D} {n : Nat}, D.laysA xs n = true → D.plains xs = true ∧ PyData.canLayAll0 (D.pys xs) = true ∧ PyData.depthAll (D.pys xs) ≤ n
  | [], n, _ => by simp [D.plains, D.pys, PyData.canLayAll0, PyData.depthAll]
  | x :: xs, n, h => by
    simp only [D.laysA, Bool.and_eq_true] at h
    have a := lays_ok h.1
    have b := laysA_ok h.2
    simp [D.plains, D.pys, PyData.canLayAll0, PyData.depthAll, a.1, a.2.1, b.1, b.2.1]
    exact Nat.max_le.mpr ⟨a.2.2, b.2.2⟩
end
theorem lays_fine {x : D} {n : Nat} (h : x.lays n = true) (hn : n ≤ 64) : x.fine = true := by
  obtain ⟨a, b, c⟩ := lays_ok h
  show (x.plain && SeqAt.shaped x.py) = true
  rw [a, Bool.true_and]
  show (x.py.canLay0 && decide (x.py.depth ≤ 64)) = true
  rw [b, Bool.true_and]
  exact decide_eq_true (by omega)
theorem laysA_of {xs : List D} {n : Nat} (h : ∀ x ∈ xs, x.lays n = true) : D.laysA xs n = true := by
  induction xs with
  | nil => simp only [D.laysA]
  | cons y ys ih =>
    simp only [D.laysA, Bool.and_eq_true]
    exact ⟨h y List.mem_cons_self, ih fun x hx => h x (List.mem_cons_of_mem _ hx)⟩
theorem lays_tup {xs : List D} {n : Nat} (h : ∀ x ∈ xs, x.lays n = true) : (D.tup xs).lays (n + 1) = true := by simp only [D.lays]; exact laysA_of h
mutual
def D.slim : D → Bool
  | .int i => decide (i.natAbs < 10000000000000000000000000000000000000000)
  | .tup xs | .lst xs => decide (xs.length ≤ 1000) && D.slims xs
  | _ => true
def D.slims : List D → Bool
  | [] => true
  | x :: xs => D.slim x && D.slims xs
end
mutual
theorem slim_small : ∀ {x : D}, D.slim x = true → x.small = true
  | .int i, h => by
    simp only [D.slim] at h
    simp only [D.small]
    exact decide_eq_true (lt_pow (m := 134) (sz40 (of_decide_eq_true h)) (by decide))
  | .tup xs, h => by
    simp only [D.slim, Bool.and_eq_true] at h
    simp only [D.small]
    exact slims_small h.2
  | .lst xs, h => by
    simp only [D.slim, Bool.and_eq_true] at h
    simp only [D.small]
    exact slims_small h.2
  | .non, _ | .bl _, _ | .str _, _ | .ty _, _ | .st, _ | .obj _, _ | .dct, _ | .ins _ _ _, _ | .exc _ _ _ _, _ | .xob _ _ _, _ | .dic _ _, _ => by simp only [D.small]
theorem slims_small : ∀ {xs : List D}, D.slims xs = true → D.smalls xs = true
  | [], _ => by simp only [D.smalls]
  | x :: xs, h => by
    simp only [D.slims, Bool.and_eq_true] at h
    simp only [D.smalls, Bool.and_eq_true]
    exact ⟨slim_small h.1, slims_small h.2⟩
end
theorem slims_mem {xs : List D} (h : D.slims xs = true) {x : D} (hx : x ∈ xs) : x.slim = true := by
  induction xs with
  | nil => cases hx
  | cons y ys ih =>
    simp only [D.slims, Bool.and_eq_true] at h
    rcases List.mem_cons.mp hx with rfl | hx
    · exact h.1
    · exact ih h.2 hx
theorem slims_of {xs : List D} (h : ∀ x ∈ xs, x.slim = true) : D.slims xs = true := by
  induction xs with
  | nil => simp only [D.slims]
  | cons y ys ih =>
    simp only [D.slims, Bool.and_eq_true]
    exact ⟨h y List.mem_cons_self, ih fun x hx => h x (List.mem_cons_of_mem _ hx)⟩
/-- what may be passed here: judged and slim -/
structure Gd (K : PySem.W.Frag) (x : D) : Prop where
  j : Jd K x
  s : x.slim = true
theorem Gd.small {K : PySem.W.Frag} {x : D} (h : Gd K x) : x.small = true := slim_small h.s
theorem Gd.ty {K : PySem.W.Frag} {x : D} (h : Gd K x) : Jd1 K x := jd_ty h.j
theorem Gd.tup {K : PySem.W.Frag} {xs : List D} (h : ∀ x ∈ xs, Gd K x) (hl : xs.length ≤ 1000) : Gd K (.tup xs) := ⟨by
    simp only [Jd]
    exact jdA_of fun x hx => (h x hx).j, by
    simp only [D.slim, Bool.and_eq_true]
    exact ⟨decide_eq_true hl, slims_of fun x hx => (h x hx).s⟩⟩
theorem Gd.lst {K : PySem.W.Frag} {xs : List D} (h : ∀ x ∈ xs, Gd K x) (hl : xs.length ≤ 1000) : Gd K (.lst xs) := ⟨by
    simp only [Jd]
    exact jdA_of fun x hx => (h x hx).j, by
    simp only [D.slim, Bool.and_eq_true]
    exact ⟨decide_eq_true hl, slims_of fun x hx => (h x hx).s⟩⟩
theorem Gd.mem {K : PySem.W.Frag} {xs : List D} (h : Gd K (.tup xs)) {x : D} (hx : x ∈ xs) : Gd K x := ⟨by
    have := h.j
    simp only [Jd] at this
    exact jd_mem this hx, by
    have := h.s
    simp only [D.slim, Bool.and_eq_true] at this
    exact slims_mem this.2 hx⟩
theorem Gd.len {K : PySem.W.Frag} {xs : List D} (h : Gd K (.tup xs)) : xs.length ≤ 1000 := by
  have := h.s
  simp only [D.slim, Bool.and_eq_true, decide_eq_true_eq] at this
  exact this.1
theorem Gd.lenD {K : PySem.W.Frag} {x : D} (h : Gd K x) : x.len ≤ 1000 := by
  cases x with
  | tup xs =>
    have := h.len
    show (xs.length : Int) ≤ 1000
    omega
  | _ => exact (by decide : (-1 : Int) ≤ 1000)
theorem Gd.int (K : PySem.W.Frag) {i : Int} (h : i.natAbs < 10000000000000000000000000000000000000000) : Gd K (.int i) := ⟨by simp only [Jd], by simp only [D.slim]; exact decide_eq_true h⟩
theorem Gd.non (K : PySem.W.Frag) : Gd K .non := ⟨by simp only [Jd], by simp only [D.slim]⟩
theorem Gd.fr (K : PySem.W.Frag) {p : Fr} (h1 : p.1.natAbs < 10000000000000000000000000000000000000000) (h2 : p.2.natAbs < 10000000000000000000000000000000000000000) : Gd K (fr p) := Gd.tup (fun x hx => by
  simp only [List.mem_cons, List.not_mem_nil, or_false] at hx
  rcases hx with rfl | rfl
  · exact .int K h1
  · exact .int K h2) (by show 2 ≤ 1000; decide)
theorem find_some {p : D → Bool} {xs : List D} {i : Nat} {d : D} (h : ∀ j, j < i → ∀ e, xs[j]? = some e → p e = false) (hd : xs[i]? = some d) (hp : p d = true) : xs.findIdx? p = some i := by
  have hi := (List.getElem?_eq_some_iff.mp hd).1
  rw [List.findIdx?_eq_some_iff_getElem]
  refine ⟨hi, ?_, fun j hj => ?_⟩
  · rw [List.getElem?_eq_getElem hi] at hd
    cases hd
    exact hp
  · rw [h j hj _ (List.getElem?_eq_getElem (by omega))]
    exact Bool.false_ne_true
theorem find_none {p : D → Bool} {xs : List D} (h : ∀ (j : Nat) (e : D), xs[j]? = some e → p e = false) : xs.findIdx? p = none := by
  rw [List.findIdx?_eq_none_iff]
  intro x hx
  obtain ⟨j, hj, rfl⟩ := List.mem_iff_getElem.mp hx
  exact h j _ (List.getElem?_eq_getElem hj)
def topD : D → Int
  | .tup (.int i :: _) => i
  | _ => 0
def botD : D → Int
  | .tup (_ :: .int i :: _) => i
  | _ => 0
def isPr : D → Bool
  | .tup [_, _] => true
  | _ => false
def items : D → List D
  | .tup xs => xs
  | _ => []
def hasLen : D → Bool
  | .tup xs => decide (1 ≤ xs.length) && decide (xs.length ≤ 10)
  | _ => false
def exOk (e : D) : Bool := decide (-6 ≤ topD e) && decide (topD e ≤ 6) && decide (botD e ≤ 4)
def isCl (n : Int) (x : D) : Bool := x.isNon || (isUn n x && (items x).all exOk)
def badRow (xs : List D) (e : D) : Bool := !hasLen e || decide (e.len ≠ D.len (xs.headD .non))
def badIn (n : Int) (e : D) : Bool := (items e).any fun c => !isCl n c
def wrongC (n : Int) (xs : List D) : D := match xs.findIdx? (badIn n) with
  | none => .non
  | some i => match (items (xs.getD i .non)).findIdx? (fun c => !isCl n c) with
    | none => .non
    | some j => .tup [.int i, .int j]
def wrongR (n : Int) (xs : List D) : D := match xs.findIdx? (badRow xs) with
  | some i => .tup [.int i]
  | none => wrongC n xs
def wrongD (b x : D) : D := if b.isInt && decide (1 ≤ b.toI) && decide (b.toI ≤ 3) then (if hasLen x then wrongR b.toI (items x) else .str "rows") else .str "bases"
theorem wrongD_in {n : Int} {x : D} (h1 : 1 ≤ n) (h3 : n ≤ 3) : wrongD (.int n) x = if hasLen x then wrongR n (items x) else .str "rows" := by
  unfold wrongD
  rw [if_pos]
  · rfl
  · show (true && decide (1 ≤ n) && decide (n ≤ 3)) = true
    rw [decide_eq_true h1, decide_eq_true h3]
    rfl
theorem wrongD_out {b x : D} (h : ¬ (b.isInt = true ∧ 1 ≤ b.toI ∧ b.toI ≤ 3)) : wrongD b x = .str "bases" := by
  unfold wrongD
  rw [if_neg]
  intro z
  simp only [Bool.and_eq_true, decide_eq_true_eq] at z
  exact h ⟨z.1.1, z.1.2, z.2⟩
theorem badRow_tup {xs cs ds : List D} (h : hasLen (.tup cs) = true) (e : xs.headD .non = .tup ds) : badRow xs (.tup cs) = !decide ((cs.length : Int) = ds.length) := by
  unfold badRow
  rw [h, e]
  show (!true || decide (¬ ((cs.length : Int) = ds.length))) = _
  by_cases hh : (cs.length : Int) = ds.length
  · rw [decide_eq_true hh, decide_eq_false (fun z => z hh)]
    rfl
  · rw [decide_eq_false hh, decide_eq_true hh]
    rfl
theorem fr_of {x : D} (h : isFr x = true) : ∃ p : Fr, x = fr p ∧ IsF p := by
  unfold isFr at h
  split at h
  · rename_i a b
    simp only [Bool.and_eq_true] at h
    obtain ⟨⟨⟨h1, h2⟩, h3⟩, h4⟩ := h
    obtain ⟨i, rfl⟩ := isInt_of h1
    obtain ⟨j, rfl⟩ := isInt_of h2
    exact ⟨(i, j), rfl, of_decide_eq_true h3, of_decide_eq_true h4⟩
  · cases h
theorem frs_all {xs : List D} (h : xs.all isFr = true) : ∃ u : List Fr, xs = u.map fr ∧ ∀ p ∈ u, IsF p := by
  induction xs with
  | nil => exact ⟨[], rfl, fun p hp => by cases hp⟩
  | cons x xs ih =>
    rw [List.all_cons, Bool.and_eq_true] at h
    obtain ⟨p, rfl, hp⟩ := fr_of h.1
    obtain ⟨u, rfl, hu⟩ := ih h.2
    refine ⟨p :: u, rfl, fun q hq => ?_⟩
    rcases List.mem_cons.mp hq with rfl | hq
    · exact hp
    · exact hu q hq
theorem isUn_of {n : Int} {x : D} (h : isUn n x = true) : ∃ u : List Fr, x = un u ∧ (u.length : Int) = n ∧ ∀ p ∈ u, IsF p := by
  cases x with
  | tup xs =>
    simp only [isUn, Bool.and_eq_true] at h
    obtain ⟨u, rfl, hu⟩ := frs_all h.2
    have := of_decide_eq_true h.1
    rw [List.length_map] at this
    exact ⟨u, rfl, this, hu⟩
  | _ => cases h
theorem is_un {n : Int} {x : D} (h1 : 1 ≤ n) (h3 : n ≤ 3) : (isAny x && decide (x.len = n)) = isUn n x := by
  cases x with
  | tup xs =>
    show ((decide (1 ≤ xs.length) && decide (xs.length ≤ 3) && xs.all isFr) && decide ((xs.length : Int) = n)) = (decide ((xs.length : Int) = n) && xs.all isFr)
    by_cases hn : (xs.length : Int) = n
    · rw [decide_eq_true hn, decide_eq_true (show 1 ≤ xs.length by omega), decide_eq_true (show xs.length ≤ 3 by omega)]
      cases xs.all isFr <;> rfl
    · rw [decide_eq_false hn]
      cases (decide (1 ≤ xs.length) && decide (xs.length ≤ 3) && xs.all isFr) <;> rfl
  | _ => rfl
theorem tup_of {x : D} (h : x.isTup = true) : ∃ xs, x = .tup xs := by
  cases x <;> first | exact ⟨_, rfl⟩ | cases h
theorem hasLen_of {x : D} (h : hasLen x = true) : ∃ xs, x = .tup xs ∧ 1 ≤ xs.length ∧ xs.length ≤ 10 := by
  cases x with
  | tup xs =>
    simp only [hasLen, Bool.and_eq_true, decide_eq_true_eq] at h
    exact ⟨xs, rfl, h.1, h.2⟩
  | _ => cases h
/-- a grid that is right: its rows are of units and noughts -/
structure GridOk (n : Int) (xs : List D) : Prop where
  n1 : 1 ≤ n
  n3 : n ≤ 3
  l1 : 1 ≤ xs.length
  l10 : xs.length ≤ 10
  rows : ∃ m : Nat, 1 ≤ m ∧ m ≤ 10 ∧ ∀ e ∈ xs, ∃ cs, e = .tup cs ∧ cs.length = m ∧ ∀ c ∈ cs, isCl n c = true
theorem cl_lays {n : Int} {c : D} (h : isCl n c = true) : c.lays 2 = true := by
  unfold isCl at h
  rw [Bool.or_eq_true] at h
  rcases h with h | h
  · cases c <;> first | rfl | cases h
  · rw [Bool.and_eq_true] at h
    obtain ⟨u, rfl, _, _⟩ := isUn_of h.1
    refine lays_tup fun x hx => ?_
    obtain ⟨p, _, rfl⟩ := List.mem_map.mp hx
    rfl
theorem GridOk.lays {n : Int} {xs : List D} (g : GridOk n xs) : (D.tup xs).lays 4 = true := by
  obtain ⟨m, _, _, h⟩ := g.rows
  refine lays_tup fun e he => ?_
  obtain ⟨cs, rfl, _, hc⟩ := h e he
  exact lays_tup fun c hc' => cl_lays (hc c hc')
end PD
namespace PD
open PySem PySem.Spec PyProof.Rows L2
theorem cutD_lo (xs : List D) (i : Nat) : cutD xs none (some (i : Int)) = xs.take i := by
  unfold cutD
  rw [HT.sIx_none, HT.sIx_nat, List.drop_zero, Nat.sub_zero]
  by_cases h : i ≤ xs.length
  · rw [Nat.min_eq_left h]
  · rw [Nat.min_eq_right (by omega), List.take_length, List.take_of_length_le (by omega)]
theorem cutD_hi (xs : List D) (i : Nat) : cutD xs (some (i : Int)) none = xs.drop i := by
  unfold cutD
  rw [HT.sIx_none, HT.sIx_nat]
  by_cases h : i ≤ xs.length
  · rw [Nat.min_eq_left h]
    exact List.take_of_length_le (by rw [List.length_drop]; omega)
  · rw [Nat.min_eq_right (by omega), List.drop_of_length_le (Nat.le_refl _), List.drop_of_length_le (by omega), List.take_nil]
theorem cut_set {xs : List D} {i : Nat} (h : i < xs.length) (y : D) : cutD xs none (some (i : Int)) ++ [y] ++ cutD xs (some ((i : Int) + 1)) none = xs.set i y := by
  rw [cutD_lo, show (i : Int) + 1 = ((i + 1 : Nat) : Int) from rfl, cutD_hi, List.set_eq_take_append_cons_drop, if_pos h, List.append_assoc]
  rfl
theorem cutD_mem {xs : List D} {lo hi : Option Int} {e : D} (h : e ∈ cutD xs lo hi) : e ∈ xs := List.mem_of_mem_drop (List.mem_of_mem_take h)
theorem cutD_len (xs : List D) (lo hi : Option Int) : (cutD xs lo hi).length ≤ xs.length := by
  unfold cutD
  rw [List.length_take, List.length_drop]
  omega
theorem cl_un {n : Int} {u : List Fr} (h1 : (u.length : Int) = n) (h : ∀ p ∈ u, IsF p ∧ p.1.natAbs ≤ 6 ∧ p.2 ≤ 4) : isCl n (un u) = true := by
  unfold isCl
  rw [isUn_un h1 fun p hp => (h p hp).1, Bool.true_and, Bool.or_eq_true]
  right
  show (u.map fr).all exOk = true
  rw [List.all_map, List.all_eq_true]
  intro p hp
  have := h p hp
  show (decide (-6 ≤ p.1) && decide (p.1 ≤ 6) && decide (p.2 ≤ 4)) = true
  rw [decide_eq_true (show -6 ≤ p.1 by omega), decide_eq_true (show p.1 ≤ 6 by omega), decide_eq_true this.2.2]
  rfl
theorem cl_of {n : Int} {c : D} (h : isCl n c = true) : c = .non ∨ ∃ u : List Fr, c = un u ∧ (u.length : Int) = n ∧ ∀ p ∈ u, IsF p ∧ p.1.natAbs ≤ 6 ∧ p.2 ≤ 4 := by
  unfold isCl at h
  rw [Bool.or_eq_true, Bool.and_eq_true] at h
  rcases h with h | ⟨h, h2⟩
  · left
    cases c <;> first | rfl | cases h
  · right
    obtain ⟨u, rfl, hl, hf⟩ := isUn_of h
    refine ⟨u, rfl, hl, fun p hp => ⟨hf p hp, ?_⟩⟩
    have := List.all_eq_true.mp h2 (fr p) (List.mem_map.mpr ⟨p, hp, rfl⟩)
    have e : exOk (fr p) = (decide (-6 ≤ p.1) && decide (p.1 ≤ 6) && decide (p.2 ≤ 4)) := rfl
    rw [e] at this
    simp only [Bool.and_eq_true, decide_eq_true_eq] at this
    omega
theorem cl_gd {K : PySem.W.Frag} {n : Int} {c : D} (hn : n ≤ 3) (h : isCl n c = true) : Gd K c := by
  rcases cl_of h with rfl | ⟨u, rfl, hl, hu⟩
  · exact .non K
  · refine Gd.tup (fun x hx => ?_) (by rw [List.length_map]; omega)
    obtain ⟨p, hp, rfl⟩ := List.mem_map.mp hx
    have := hu p hp
    have := this.1.1
    exact .fr K (by omega) (by omega)
end PD
namespace PD
open PySem PySem.Spec PyProof.Rows L2
theorem bad_row0 {xs : List D} {i : Nat} {d : D} (h : ∀ j, j < i → ∀ e, xs[j]? = some e → badRow xs e = false) (hd : xs[i]? = some d) (hl : hasLen d = true) : ∃ r0 : D, xs[0]? = some r0 ∧ hasLen r0 = true ∧ xs.headD .non = r0 := by
  cases xs with
  | nil => simp at hd
  | cons y ys =>
    refine ⟨y, rfl, ?_, rfl⟩
    by_cases hi : i = 0
    · subst hi
      cases hd
      exact hl
    · have := h 0 (by omega) y rfl
      unfold badRow at this
      simp only [Bool.or_eq_false_iff, Bool.not_eq_false'] at this
      exact this.1
end PD
namespace PD
open PySem PySem.Spec PyProof.Rows L2
/-- a word of a test's answer, ahead of what goes on -/
theorem et_mid {W : Wd} {δ : DS} {t : TT} {P : Bool → Prop} (Mid : Bool → Prop) (h : EvT W t δ Mid) (k : ∀ b, Mid b → P b) : EvT W t δ P := fun M σ H p Q q => h M σ H p Q fun b H' g kk m => q b H' g kk (k b m)
theorem ev_mid {W : Wd} {δ : DS} {t : TE} {P : D → Prop} (Mid : D → Prop) (h : EvD W t δ Mid) (k : ∀ d, Mid d → P d) : EvD W t δ P := fun M σ H p Q q => h M σ H p Q fun v d H' g kk r m => q v d H' g kk r (k d m)
end PD
namespace PD
open PySem PySem.Spec PyProof.Rows L2
open PDX PDI PDT
abbrev Om := List (Addr × List D)
def Own (W : Wd) (M0 M : Addr → Prop) (H : Hp) (ω : Om) : Prop := ∀ a ds, (a, ds) ∈ ω → M a ∧ ¬ M0 a ∧ W.s ≠ some a ∧ (∀ s, W.s = some s → W.b ≠ a) ∧ ∃ vs, H a = some (.lst vs) ∧ Reps W M H vs ds
/-- from where a loop began: its own lists may have changed -/
structure EntM (W : Wd) (M1 : Addr → Prop) (H1 : Hp) (M : Addr → Prop) (H : Hp) : Prop where
  k : KeepM W M1 H1 H
  m : ∀ a, M1 a → M a
  new : ∀ a, M a → ¬ M1 a → H1 a = none
/-- from the entry, and from the loop -/
structure In2 (W : Wd) (M0 : Addr → Prop) (H0 : Hp) (M1 : Addr → Prop) (H1 : Hp) (M : Addr → Prop) (H : Hp) : Prop where
  e : Ent W M0 H0 M H
  l : EntM W M1 H1 M H
structure OutsO (W : Wd) (Wx : WX) (M0 : Addr → Prop) (H0 : Hp) (M1 : Addr → Prop) (H1 : Hp) (N : Om → DS → Prop) (R : D → Prop) (B C : Om → DS → Prop) (X : XV → DS → Prop) (E : Ends) : Prop where
  nx : ∀ M σ ω δ H, Pre W M δ σ H → Own W M0 M H ω → In2 W M0 H0 M1 H1 M H → N ω δ → E.nx σ H
  rt : ∀ v d H, StOk W H → Keep W H0 H → Rep W M0 H v d → R d → E.rt v H
  bk : ∀ M σ ω δ H, Pre W M δ σ H → Own W M0 M H ω → In2 W M0 H0 M1 H1 M H → B ω δ → E.bk σ H
  ct : ∀ M σ ω δ H, Pre W M δ σ H → Own W M0 M H ω → In2 W M0 H0 M1 H1 M H → C ω δ → E.ct σ H
  xw : ∀ M σ δ H cls d x, Pre W M δ σ H → Ent W M0 H0 M H → XRep W M H cls d x → X x δ → Wx cls d σ H
def SO (W : Wd) (Wx : WX) (ts : TS) (ω : Om) (δ : DS) (N : Om → DS → Prop) (R : D → Prop) (B C : Om → DS → Prop) (X : XV → DS → Prop) : Prop :=
  ∀ (M0 : Addr → Prop) (H0 : Hp) (M1 : Addr → Prop) (H1 : Hp) (M : Addr → Prop) (σ : L2.St) (H : Hp) (E : Ends), (∀ a, M0 a → ∃ o, H0 a = some o) → Pre W M δ σ H → Own W M0 M H ω → In2 W M0 H0 M1 H1 M H → OutsO W Wx M0 H0 M1 H1 N R B C X E → ts E σ H
section
variable {W : Wd} {Wx : WX} {X : XV → DS → Prop} {ω : Om} {δ : DS} {N : Om → DS → Prop} {R : D → Prop} {B C : Om → DS → Prop} {te tl : TE} {t : TT} {ts tu : TS} {ta : TA} {g : TG}
theorem Ent.refl (M : Addr → Prop) (H : Hp) : Ent W M H M H := ⟨Keep.refl _, fun _ x => x, fun _ x y => absurd x y⟩
theorem Ent.trans {M0 M M2 : Addr → Prop} {H0 H H2 : Hp} (wf : Wf W M H) (e : Ent W M0 H0 M H) (x : Ent W M H M2 H2) : Ent W M0 H0 M2 H2 := ⟨e.k.trans x.k, fun a ha => x.m a (e.m a ha), fun a ha hn => by
  by_cases hM : M a
  · exact e.new a hM hn
  · have h1 := x.new a ha hM
    cases h0 : H0 a with
    | none => rfl
    | some oo =>
      rw [e.k a oo (fun z => hM (wf.sm a z)) h0] at h1
      cases h1⟩
theorem EntM.refl (M : Addr → Prop) (H : Hp) : EntM W M H M H := ⟨fun _ _ _ _ h => h, fun _ x => x, fun _ x y => absurd x y⟩
theorem EntM.trans {M0 M M2 : Addr → Prop} {H0 H H2 : Hp} (e : EntM W M0 H0 M H) (x : EntM W M H M2 H2) (wf : Wf W M H) : EntM W M0 H0 M2 H2 := ⟨fun a o n l h => x.k a o n (fun ma => by
    by_cases m0 : M0 a
    · exact l m0
    · rw [e.new a ma m0] at h
      cases h) (e.k a o n l h), fun a ha => x.m a (e.m a ha), fun a ha hn => by
  by_cases hM : M a
  · exact e.new a hM hn
  · have h1 := x.new a ha hM
    cases h0 : H0 a with
    | none => rfl
    | some oo =>
      rw [e.k a oo (fun z => hM (wf.sm a z)) (fun z => absurd z hn) h0] at h1
      cases h1⟩
theorem Ent.toM {M M2 : Addr → Prop} {H H2 : Hp} (x : Ent W M H M2 H2) : EntM W M H M2 H2 := ⟨x.k.toM, x.m, x.new⟩
theorem In2.trans {M0 M1 M M2 : Addr → Prop} {H0 H1 H H2 : Hp} (e : In2 W M0 H0 M1 H1 M H) (wf : Wf W M H) (x : Ent W M H M2 H2) : In2 W M0 H0 M1 H1 M2 H2 := ⟨e.e.trans wf x, e.l.trans x.toM wf⟩
theorem In2.next {M0 M1 M : Addr → Prop} {H0 H1 H H2 : Hp} (e : In2 W M0 H0 M1 H1 M H) (wf : Wf W M H) (k : Keep W H H2) : In2 W M0 H0 M1 H1 M H2 := e.trans wf ⟨k, fun _ x => x, fun _ x y => absurd x y⟩
theorem Own.move {M0 M M' : Addr → Prop} {H H' : Hp} (wf : Wf W M H) (wf' : Wf W M' H') (o : Own W M0 M H ω) (e : Ent W M H M' H') : Own W M0 M' H' ω := fun a ds m => by
  obtain ⟨h1, h2, h3, hb, vs, h4, h5⟩ := o a ds m
  exact ⟨e.m a h1, h2, h3, hb, vs, e.k a _ h3 h4, (h5.more e.new).keepG ⟨wf.g, fun a z => e.m a (wf.sm a z)⟩ e.k⟩
theorem Own.keep {M0 M : Addr → Prop} {H H' : Hp} (wf : Wf W M H) (o : Own W M0 M H ω) (k : Keep W H H') : Own W M0 M H' ω := fun a ds m => by
  obtain ⟨h1, h2, h3, hb, vs, h4, h5⟩ := o a ds m
  exact ⟨h1, h2, h3, hb, vs, k a _ h3 h4, h5.keep wf k⟩
/-- a statement that changes none of these lists -/
theorem so_lift (h : SX W Wx ts δ (N ω) R (B ω) (C ω) X) : SO W Wx ts ω δ N R B C X := fun M0 H0 M1 L1 M σ H E d0 p ow e o =>
  h M H M σ H E p (Ent.refl M H) ⟨fun M' σ' δ' H' p' e' x => o.nx M' σ' ω δ' H' p' (ow.move p.wf p'.wf e') (e.trans p.wf e') x, fun v d H' g k r x => o.rt v d H' g (e.e.k.trans k) (r.anti e.e.m) x,
    fun M' σ' δ' H' p' e' x => o.bk M' σ' ω δ' H' p' (ow.move p.wf p'.wf e') (e.trans p.wf e') x, fun M' σ' δ' H' p' e' x => o.ct M' σ' ω δ' H' p' (ow.move p.wf p'.wf e') (e.trans p.wf e') x,
    fun M' σ' δ' H' cls d x p' e' rx hx => o.xw M' σ' δ' H' cls d x p' (e.e.trans p.wf e') rx hx⟩
theorem so_seq (h : SO W Wx ts ω δ (fun ω' δ' => SO W Wx tu ω' δ' N R B C X) R B C X) : SO W Wx (tSeq ts tu) ω δ N R B C X := fun M0 H0 M1 L1 M σ H E d0 p ow e o =>
  h M0 H0 M1 L1 M σ H { E with nx := tu E } d0 p ow e ⟨fun M' σ' ω' δ' H' p' ow' e' hN => hN M0 H0 M1 L1 M' σ' H' E d0 p' ow' e' o, o.rt, o.bk, o.ct, o.xw⟩
theorem so_next (h : N ω δ) : SO W Wx tNext ω δ N R B C X := fun M0 H0 M1 L1 M σ H E d0 p ow e o => o.nx M σ ω δ H p ow e h
theorem so_if (h : EvT W t δ fun b => (b = true → SO W Wx ts ω δ N R B C X) ∧ (b = false → SO W Wx tu ω δ N R B C X)) : SO W Wx (tIfS t ts tu) ω δ N R B C X := fun M0 H0 M1 L1 M σ H E d0 p ow e o =>
  h M σ H p _ fun b H1 g1 k1 h1 => by
    cases b with
    | true =>
      rw [if_pos rfl]
      exact h1.1 rfl M0 H0 M1 L1 M σ H1 E d0 (p.next g1 k1) (ow.keep p.wf k1) (e.next p.wf k1) o
    | false =>
      rw [if_neg Bool.false_ne_true]
      exact h1.2 rfl M0 H0 M1 L1 M σ H1 E d0 (p.next g1 k1) (ow.keep p.wf k1) (e.next p.wf k1) o
theorem so_asg {i : Nat} (h : EvD W te δ fun d => N ω (δ.set i (some d))) : SO W Wx (tAsg te (gName i)) ω δ N R B C X := so_lift (sd_asg h)
/-- a new list of one's own -/
theorem so_new {i : Nat} (h : EvA W ta δ fun ds => ds.length ≤ 100000 ∧ ∀ p, (∀ x ∈ ω, x.1 ≠ p) → N ((p, ds) :: ω) (δ.set i (some (.obj p)))) : SO W Wx (tAsg (tLst ta) (gName i)) ω δ N R B C X := fun M0 H0 M1 L1 M σ H E d0 p ow e o =>
  h M σ H p _ fun vs ds H1 g1 k1 r1 ⟨hl, hP⟩ => ⟨len_ok (by rw [r1.length]; exact hl), fun a ha => by
    have p1 := p.next g1 k1
    have k2 : Keep W H1 (upd H1 a (.lst vs)) := Keep.new ha
    have g2 : StOk W (upd H1 a (.lst vs)) := g1.new ha
    have ns : W.s ≠ some a := fun z => by
      obtain ⟨_, _, _, _, q, _⟩ := g1 a z
      rw [ha] at q
      cases q
    have off0 : H0 a = none := by
      cases h0 : H0 a with
      | none => rfl
      | some oo =>
        rw [(e.e.k.trans k1) a oo ns h0] at ha
        cases ha
    have n0 : ¬ M0 a := fun z => by
      obtain ⟨oo, ho⟩ := d0 a z
      rw [off0] at ho
      cases ho
    let M' : Addr → Prop := fun b => M b ∨ b = a
    have e2 : Ent W M H1 M' (upd H1 a (.lst vs)) := ⟨k2, fun _ x => .inl x, fun b x y => by
      rcases x with x | x
      · exact absurd x y
      · rw [x]; exact ha⟩
    have wf' : Wf W M' (upd H1 a (.lst vs)) := ⟨g2, fun b z => .inl (p1.wf.sm b z), fun b x => by
      rcases x with x | x
      · exact (p1.wf.next g2 k2).dom b x
      · rw [x]; exact ⟨_, upd_same⟩⟩
    have wg' : Wg W M' H1 := ⟨g1, fun b z => .inl (p1.wf.sm b z)⟩
    have sl : Slots W M' (upd H1 a (.lst vs)) σ δ := ⟨p1.sl.len, fun j d hd => by
      obtain ⟨v, a1, a2⟩ := p1.sl.get j d hd
      exact ⟨v, a1, (a2.more e2.new).keepG wg' k2⟩⟩
    refine o.nx M' _ ((a, ds) :: ω) _ _ ⟨wf', sl.set i (.obj a)⟩ (fun b es m => ?_) ((e.next p.wf k1).trans p1.wf e2) (hP a fun x hx z => ?_)
    · rcases List.mem_cons.mp m with m | m
      · cases m
        exact ⟨.inr rfl, n0, ns, fun s hs z => (by
          obtain ⟨_, _, _, _, _, _, q, _⟩ := g1 s hs
          rw [z, ha] at q
          cases q), vs, upd_same, (r1.more e2.new).keepG wg' k2⟩
      · exact (ow.keep p.wf k1).move p1.wf wf' e2 b es m
    · obtain ⟨_, _, _, _, vs', q, _⟩ := (ow.keep p.wf k1) x.1 x.2 hx
      rw [z, ha] at q
      cases q⟩
/-- an item's data, as a list holds them -/
def putO (ω : Om) (a : Addr) (f : List D → List D) : Om := ω.map fun x => if x.1 = a then (x.1, f x.2) else x
theorem mem_putO {a b : Addr} {f : List D → List D} {es : List D} (h : (b, es) ∈ putO ω a f) : ∃ ds, (b, ds) ∈ ω ∧ es = if b = a then f ds else ds := by
  obtain ⟨⟨c, ds⟩, h1, h2⟩ := List.mem_map.mp h
  by_cases hc : c = a
  · simp only [hc, if_pos] at h2
    cases h2
    rw [hc] at h1
    exact ⟨ds, h1, by rw [if_pos rfl]⟩
  · simp only [hc, if_false] at h2
    cases h2
    exact ⟨_, h1, by rw [if_neg hc]⟩
theorem Reps.setR {W : Wd} {M : Addr → Prop} {H : Hp} : ∀ {vs : List V} {ds : List D} (j : Nat) {v : V} {d : D}, Reps W M H vs ds → Rep W M H v d → Reps W M H (vs.set j v) (ds.set j d)
  | _, _, _, _, _, .nil, _ => .nil
  | _, _, 0, _, _, .cons _ t, r => .cons r t
  | _, _, j + 1, _, _, .cons x t, r => .cons x (t.setR j r)
/-- a list of one's own is changed -/
theorem own_upd {M0 M1 M : Addr → Prop} {H0 L1 H : Hp} {σ : L2.St} {a : Addr} {ds : List D} {us : List V} {f : List D → List D} (p : Pre W M δ σ H) (ow : Own W M0 M H ω) (e : In2 W M0 H0 M1 L1 M H) (d0 : ∀ a, M0 a → ∃ o, H0 a = some o) (hm : (a, ds) ∈ ω)
    (hr : ∀ ds, (a, ds) ∈ ω → Reps W M H us (f ds)) : Pre W M δ σ (upd H a (.lst us)) ∧ Own W M0 M (upd H a (.lst us)) (putO ω a f) ∧ In2 W M0 H0 M1 L1 M (upd H a (.lst us)) := by
  obtain ⟨hM, n0, ns, nb, vs, ha, _⟩ := ow a ds hm
  have up : ∀ {v : V} {d : D}, Rep W M H v d → Rep W M (upd H a (.lst us)) v d := fun r => r.upd (rdT_lst ha) hM
  have ups : ∀ {v : List V} {d : List D}, Reps W M H v d → Reps W M (upd H a (.lst us)) v d := fun r => r.upd (rdT_lst ha) hM
  have gg : StOk W (upd H a (.lst us)) := fun s hs => by
    obtain ⟨n1, i1, c1, m1, a1, a2, a3, a4⟩ := p.wf.g s hs
    exact ⟨n1, i1, c1, m1, by rw [upd_ne (fun z => ns (by rw [hs, z]))]; exact a1, a2, by rw [upd_ne (nb s hs)]; exact a3, a4⟩
  have off : H0 a = none := by
    by_cases z : M0 a
    · exact absurd z n0
    · exact e.e.new a hM z
  refine ⟨⟨⟨gg, p.wf.sm, fun b hb => ?_⟩, p.sl.len, fun j d hd => ?_⟩, fun b es m => ?_, ⟨⟨fun b o nsb hb => ?_, e.e.m, e.e.new⟩, ⟨fun b o nsb nl hb => ?_, e.l.m, e.l.new⟩⟩⟩
  · by_cases z : b = a
    · exact ⟨_, by rw [z]; exact upd_same⟩
    · obtain ⟨o, ho⟩ := p.wf.dom b hb
      exact ⟨o, by rw [upd_ne z]; exact ho⟩
  · obtain ⟨v, h1, h2⟩ := p.sl.get j d hd
    exact ⟨v, h1, up h2⟩
  · obtain ⟨ds', h1, rfl⟩ := mem_putO m
    obtain ⟨x1, x2, x3, x4, vs', x5, x6⟩ := ow b ds' h1
    by_cases z : b = a
    · subst z
      rw [if_pos rfl]
      exact ⟨x1, x2, x3, x4, us, upd_same, ups (hr ds' h1)⟩
    · rw [if_neg z]
      exact ⟨x1, x2, x3, x4, vs', by rw [upd_ne z]; exact x5, ups x6⟩
  · have z : b ≠ a := fun z => by rw [z, off] at hb; cases hb
    rw [upd_ne z]
    exact e.e.k b o nsb hb
  · have kept := e.l.k b o nsb nl hb
    have z : b ≠ a := fun z => by
      subst z
      rw [ha] at kept
      cases kept
      by_cases m1 : M1 b
      · exact nl m1 _ rfl
      · rw [e.l.new b hM m1] at hb
        cases hb
    rw [upd_ne z]
    exact kept
/-- xs.append(e) -/
theorem so_app {i : Nat} {a : Addr} {ds : List D} (hi : δ[i]? = some (some (.obj a))) (hm : (a, ds) ∈ ω) (hu : ∀ es, (a, es) ∈ ω → es.length < 100000) (h : EvA W ta δ fun xs => ∃ d, xs = [d] ∧ N (putO ω a fun es => es ++ [d]) δ) : SO W Wx (tDrop (tBM W.K "list" rAppend (tVar i) ta)) ω δ N R B C X := fun M0 H0 M1 L1 M σ H E d0 p ow e o => by
  obtain ⟨v, s1, r1⟩ := p.sl.get i _ hi
  cases r1
  obtain ⟨hM, n0, ns, nb, vs, ha, rr⟩ := ow a ds hm
  refine ⟨_, s1, .inl ⟨rfl, _, SqL.of ha⟩, h M σ H p _ fun us xs H1 g1 k1 r1 h1 => ?_⟩
  obtain ⟨d, rfl, hN⟩ := h1
  cases r1 with
  | cons r1 r2 =>
    cases r2
    have ha1 := k1 a _ ns ha
    refine ⟨a, vs, _, rfl, rfl, ha1, ?_, ?_⟩
    · rw [rr.length]
      exact Nat.lt_of_lt_of_le (hu ds hm) (by decide)
    · have one : ∀ es, (a, es) ∈ ω → Reps W M H1 (vs ++ [_]) (es ++ [d]) := fun es m => by
        obtain ⟨_, _, _, _, vs', q1, q2⟩ := ow a es m
        rw [ha] at q1
        cases q1
        exact (q2.keep p.wf k1).append (.cons r1 .nil)
      obtain ⟨x1, x2, x3⟩ := own_upd (f := fun es => es ++ [d]) (p.next g1 k1) (ow.keep p.wf k1) (e.next p.wf k1) d0 hm one
      exact o.nx M _ _ _ _ x1 x2 x3 hN
/-- xs[k] = e -/
theorem so_set {i j : Nat} {a : Addr} {ds : List D} {ti : TE} (hi : δ[i]? = some (some (.obj a))) (hm : (a, ds) ∈ ω) (h : EvD W te δ fun d => EvD W ti δ fun x => x = .int (j : Int) ∧ (∀ es, (a, es) ∈ ω → j < es.length) ∧ N (putO ω a fun es => es.set j d) δ) : SO W Wx (tAsg te (gSub (tVar i) ti rSetL)) ω δ N R B C X := fun M0 H0 M1 L1 M σ H E d0 p ow e o => by
  obtain ⟨v, s1, r1⟩ := p.sl.get i _ hi
  cases r1
  obtain ⟨hM, n0, ns, nb, vs, ha, rr⟩ := ow a ds hm
  refine h M σ H p _ fun v d H1 g1 k1 r1 h1 => ⟨_, s1, ?_⟩
  have p1 := p.next g1 k1
  refine h1 M σ H1 p1 _ fun u x H2 g2 k2 r2 h2 => ?_
  obtain ⟨rfl, hj, hN⟩ := h2
  cases r2
  have k12 := k1.trans k2
  have ha2 := k12 a _ ns ha
  have hl : j < vs.length := by rw [rr.length]; exact hj ds hm
  refine ⟨a, vs, j, j, rfl, rfl, ha2, ?_, ?_⟩
  · unfold ixN
    simp
    omega
  · have one : ∀ es, (a, es) ∈ ω → Reps W M H2 (vs.set j v) (es.set j d) := fun es m => by
      obtain ⟨_, _, _, _, vs', q1, q2⟩ := ow a es m
      rw [ha] at q1
      cases q1
      exact ((q2.keep p.wf k1).keep p1.wf k2).setR j (r1.keep p1.wf k2)
    obtain ⟨x1, x2, x3⟩ := own_upd (f := fun es => es.set j d) (p1.next g2 k2) (ow.keep p.wf k12) (e.next p.wf k12) d0 hm one
    exact o.nx M _ _ _ _ x1 x2 x3 hN
/-- for, over what is none of these lists -/
theorem so_for {wi : TI} (h : IterD W wi δ fun ds => ∃ Inv : Nat → Om → DS → Prop, Inv 0 ω δ ∧ (∀ i d ω' δ', ds[i]? = some d → Inv i ω' δ' → ∃ js, GD W g d δ' js fun δ2 => SO W Wx ts ω' δ2 (Inv (i + 1)) R N (Inv (i + 1)) X) ∧ ∀ ω' δ', Inv ds.length ω' δ' → N ω' δ') : SO W Wx (tFor wi g ts) ω δ N R B C X := fun M0 H0 M1 L1 M σ H E d0 p ow e o =>
  h M σ H p _ fun J H1 ds g1 k1 ⟨I, i0, it, ie⟩ src => by
    have p1 := p.next g1 k1
    refine ⟨fun i m σ' H' => m = ds.length - i ∧ i ≤ ds.length ∧ ∃ M' ω' δ', Pre W M' δ' σ' H' ∧ Own W M0 M' H' ω' ∧ Ent W M0 H0 M' H' ∧ EntM W M H1 M' H' ∧ I i ω' δ', ⟨_, rfl, Nat.zero_le _, M, ω, δ, p1, ow.keep p.wf k1, (e.next p.wf k1).e, EntM.refl M H1, i0⟩, ?_⟩
    rintro i m σ' H' ⟨rfl, hi, M', ω', δ', p', ow', e', l', hI⟩
    have base : ∀ {M2 : Addr → Prop} {H2 : Hp}, In2 W M0 H0 M H1 M2 H2 → In2 W M0 H0 M1 L1 M2 H2 := fun x => ⟨x.e, (e.next p.wf k1).l.trans x.l p1.wf⟩
    obtain ⟨s1, s2⟩ := src M' l'.m l'.new i H' l'.k p'.wf.g
    by_cases hlt : i < ds.length
    · obtain ⟨hgo, hy⟩ := s2 ds[i] (List.getElem?_eq_getElem hlt)
      refine .inr ⟨hgo, fun σ2 H2 => ∃ M2 ω2 δ2, Pre W M2 δ2 σ2 H2 ∧ Own W M0 M2 H2 ω2 ∧ In2 W M0 H0 M H1 M2 H2 ∧ I (i + 1) ω2 δ2, ?_, fun x H3 y => ?_⟩
      · rintro σ2 H2 ⟨M2, ω2, δ2, q1, q2, q3, q4⟩
        exact ⟨_, by omega, rfl, hlt, M2, ω2, δ2, q1, q2, q3.e, q3.l, q4⟩
      · obtain ⟨g3, k3, r3⟩ := hy x H3 y
        obtain ⟨js, hg⟩ := it i ds[i] ω' δ' (List.getElem?_eq_getElem hlt) hI
        refine hg M' σ' H3 x (p'.next g3 k3) r3 _ fun σ4 δ4 p4 hb _ => ?_
        exact hb M0 H0 M H1 M' σ4 H3 _ d0 p4 (ow'.keep p'.wf k3) (In2.next ⟨e', l'⟩ p'.wf k3) ⟨fun M5 σ5 ω5 δ5 H5 p5 ow5 e5 x5 => ⟨M5, ω5, δ5, p5, ow5, e5, x5⟩, o.rt, fun M5 σ5 ω5 δ5 H5 p5 ow5 e5 x5 => o.nx M5 σ5 ω5 δ5 H5 p5 ow5 (base e5) x5, fun M5 σ5 ω5 δ5 H5 p5 ow5 e5 x5 => ⟨M5, ω5, δ5, p5, ow5, e5, x5⟩, o.xw⟩
    · have ee : i = ds.length := by omega
      refine .inl ⟨s1 ee, o.nx M' σ' ω' δ' H' p' ow' (base ⟨e', l'⟩) (ie ω' δ' ?_)⟩
      rw [← ee]
      exact hI
mutual
def D.nref : D → Bool
  | .non | .bl _ | .int _ | .str _ | .ty _ | .obj _ => true
  | .tup xs => D.nrefs xs
  | _ => false
def D.nrefs : List D → Bool
  | [] => true
  | x :: xs => x.nref && D.nrefs xs
end
mutual
theorem Rep.nref {M M2 : Addr → Prop} {H : Hp} : ∀ {v : V} {d : D}, Rep W M H v d → d.nref = true → Rep W M2 H v d
  | _, _, .non, _ => .non
  | _, _, .bl b, _ => .bl b
  | _, _, .int i, _ => .int i
  | _, _, .str x, _ => .str x
  | _, _, .ty n, _ => .ty n
  | _, _, .tup hs r, h => .tup hs (r.nref (by simpa [D.nref] using h))
  | _, _, .lst _ _ _, h => by simp [D.nref] at h
  | _, _, .st _, h => by simp [D.nref] at h
  | _, _, .obj a, _ => .obj a
  | _, _, .dct _ _, h => by simp [D.nref] at h
  | _, _, .ins _ _ _ _, h => by simp [D.nref] at h
  | _, _, .exc _ _ _ _, h => by simp [D.nref] at h
  | _, _, .xob0 _ _, h => by simp [D.nref] at h
  | _, _, .xob _ _ _ _ _ _, h => by simp [D.nref] at h
  | _, _, .dic _ _ _ _, h => by simp [D.nref] at h
theorem Reps.nref {M M2 : Addr → Prop} {H : Hp} : ∀ {vs : List V} {ds : List D}, Reps W M H vs ds → D.nrefs ds = true → Reps W M2 H vs ds
  | _, _, .nil, _ => .nil
  | _, _, .cons r t, h => by
    simp only [D.nrefs, Bool.and_eq_true] at h
    exact .cons (r.nref h.1) (t.nref h.2)
end
theorem nrefs_of {xs : List D} (h : ∀ x ∈ xs, x.nref = true) : D.nrefs xs = true := by
  induction xs with
  | nil => simp only [D.nrefs]
  | cons y ys ih =>
    simp only [D.nrefs, Bool.and_eq_true]
    exact ⟨h y List.mem_cons_self, ih fun x hx => h x (List.mem_cons_of_mem _ hx)⟩
theorem nref_tup {xs : List D} (h : ∀ x ∈ xs, x.nref = true) : (D.tup xs).nref = true := by simp only [D.nref]; exact nrefs_of h
theorem nref_fr (p : Fr) : (fr p).nref = true := by simp [D.nref, D.nrefs]
theorem nref_un (u : List Fr) : (un u).nref = true := nref_tup fun x hx => by
  obtain ⟨p, _, rfl⟩ := List.mem_map.mp hx
  exact nref_fr p
def Lent (W : Wd) (M : Addr → Prop) (H : Hp) (ω : Om) : Prop := ∀ a ds, (a, ds) ∈ ω → ¬ M a ∧ ∃ vs, H a = some (.lst vs) ∧ Reps W M H vs ds
def EvL (W : Wd) (te : TE) (ω : Om) (δ : DS) (P : D → Prop) : Prop := ∀ (M : Addr → Prop) (σ : L2.St) (H : Hp), Pre W M δ σ H → Lent W M H ω → ∀ Q : VK, (∀ v d H', StOk W H' → Keep W H H' → Rep W M H' v d → P d → Q v H') → te σ H Q
def EvTL (W : Wd) (tt : TT) (ω : Om) (δ : DS) (P : Bool → Prop) : Prop := ∀ (M : Addr → Prop) (σ : L2.St) (H : Hp), Pre W M δ σ H → Lent W M H ω → ∀ Q : Bool → Hp → Prop, (∀ b H', StOk W H' → Keep W H H' → P b → Q b H') → tt σ H Q
theorem evl_ev {P : D → Prop} (h : EvD W te δ P) : EvL W te ω δ P := fun M σ H p _ Q q => h M σ H p Q q
theorem evtl_ev {P : Bool → Prop} (h : EvT W t δ P) : EvTL W t ω δ P := fun M σ H p _ Q q => h M σ H p Q q
theorem lent_put {M : Addr → Prop} {σ : L2.St} {H : Hp} {i : Nat} {a : Addr} {ds : List D} (hi : δ[i]? = some (some (.obj a))) (hm : (a, ds) ∈ ω) (p : Pre W M δ σ H) (l : Lent W M H ω) : Pre W M (δ.set i (some (.lst ds))) σ H := by
  obtain ⟨n, vs, ha, r⟩ := l a ds hm
  refine ⟨p.wf, by rw [List.length_set]; exact p.sl.len, fun j d hd => ?_⟩
  by_cases z : i = j
  · subst z
    obtain ⟨v, h1, h2⟩ := p.sl.get i _ hi
    cases h2
    have hl := (List.getElem?_eq_some_iff.mp hi).1
    rw [List.getElem?_set_self hl] at hd
    cases hd
    exact ⟨_, h1, .lst n ha r⟩
  · rw [List.getElem?_set_ne z] at hd
    exact p.sl.get j d hd
theorem evl_put {P : D → Prop} {a : Addr} {ds : List D} (i : Nat) (hi : δ[i]? = some (some (.obj a))) (hm : (a, ds) ∈ ω) (h : EvL W te ω (δ.set i (some (.lst ds))) P) : EvL W te ω δ P := fun M σ H p l Q q => h M σ H (lent_put hi hm p l) l Q q
theorem evtl_put {P : Bool → Prop} {a : Addr} {ds : List D} (i : Nat) (hi : δ[i]? = some (some (.obj a))) (hm : (a, ds) ∈ ω) (h : EvTL W t ω (δ.set i (some (.lst ds))) P) : EvTL W t ω δ P := fun M σ H p l Q q => h M σ H (lent_put hi hm p l) l Q q
theorem own_lend {M0 M : Addr → Prop} {σ : L2.St} {H : Hp} (p : Pre W M δ σ H) (ow : Own W M0 M H ω) : Pre W (fun a => M a ∧ ∀ x ∈ ω, x.1 ≠ a) δ σ H ∧ Lent W (fun a => M a ∧ ∀ x ∈ ω, x.1 ≠ a) H ω := by
  have less : ∀ a, (M a ∧ ∀ x ∈ ω, x.1 ≠ a) → M a := fun a x => x.1
  refine ⟨⟨⟨p.wf.g, fun a z => ⟨p.wf.sm a z, fun x hx e => ?_⟩, fun a x => p.wf.dom a x.1⟩, p.sl.len, fun j d hd => ?_⟩, fun a ds m => ?_⟩
  · obtain ⟨_, _, ns, _⟩ := ow x.1 x.2 hx
    exact ns (by rw [e]; exact z)
  · obtain ⟨v, h1, h2⟩ := p.sl.get j d hd
    exact ⟨v, h1, h2.anti less⟩
  · obtain ⟨_, _, _, _, vs, ha, r⟩ := ow a ds m
    exact ⟨fun z => z.2 _ m rfl, vs, ha, r.anti less⟩
theorem so_asgL {i : Nat} (h : EvL W te ω δ fun d => d.nref = true ∧ N ω (δ.set i (some d))) : SO W Wx (tAsg te (gName i)) ω δ N R B C X := fun M0 H0 M1 L1 M σ H E d0 p ow e o => by
  obtain ⟨p2, l2⟩ := own_lend p ow
  exact h _ σ H p2 l2 _ fun v d H1 g1 k1 r1 h1 => o.nx M _ ω _ H1 ⟨p.wf.next g1 k1, (p.next g1 k1).sl.set i (r1.nref h1.1)⟩ (ow.keep p.wf k1) (e.next p.wf k1) h1.2
theorem so_retL (h : EvL W te ω δ fun d => d.nref = true ∧ R d) : SO W Wx (tRet te) ω δ N R B C X := fun M0 H0 M1 L1 M σ H E d0 p ow e o => by
  obtain ⟨p2, l2⟩ := own_lend p ow
  exact h _ σ H p2 l2 _ fun v d H1 g1 k1 r1 h1 => o.rt v d H1 g1 (e.e.k.trans k1) (r1.nref h1.1) h1.2
theorem so_ifL (h : EvTL W t ω δ fun b => (b = true → SO W Wx ts ω δ N R B C X) ∧ (b = false → SO W Wx tu ω δ N R B C X)) : SO W Wx (tIfS t ts tu) ω δ N R B C X := fun M0 H0 M1 L1 M σ H E d0 p ow e o => by
  obtain ⟨p2, l2⟩ := own_lend p ow
  refine h _ σ H p2 l2 _ fun b H1 g1 k1 h1 => ?_
  cases b with
  | true =>
    rw [if_pos rfl]
    exact h1.1 rfl M0 H0 M1 L1 M σ H1 E d0 (p.next g1 k1) (ow.keep p.wf k1) (e.next p.wf k1) o
  | false =>
    rw [if_neg Bool.false_ne_true]
    exact h1.2 rfl M0 H0 M1 L1 M σ H1 E d0 (p.next g1 k1) (ow.keep p.wf k1) (e.next p.wf k1) o
/-- such a list is returned: it is one's own no more -/
theorem so_retO {i : Nat} {a : Addr} {ds : List D} (hi : δ[i]? = some (some (.obj a))) (hm : (a, ds) ∈ ω) (h : R (.lst ds)) : SO W Wx (tRet (tVar i)) ω δ N R B C X := fun M0 H0 M1 L1 M σ H E d0 p ow e o => by
  obtain ⟨v, s1, r1⟩ := p.sl.get i _ hi
  cases r1
  obtain ⟨hM, n0, ns, nb, vs, ha, rr⟩ := ow a ds hm
  exact ⟨_, s1, o.rt _ (.lst ds) H p.wf.g e.e.k (.lst n0 ha (rr.anti e.e.m)) h⟩
end
theorem body_ofO {K : PySem.W.Frag} {F : FD} {vs : List V} {H : Hp} {Q : VK} {E : XK} {N : List Str} {t : TS} (h : spD K F vs H Q E)
    (hb : ∀ W ds P, W.K = K → F ds P → SO W WF t [] (startD N.length ds) (fun _ _ => P .non) P (fun _ _ => False) (fun _ _ => False) XN) : t { nx := fun _ H' => Q .non H', rt := Q } (L2.start N vs) H := by
  obtain ⟨W, M, ds, P, e, w, r, f, q⟩ := h
  exact hb W ds P e f M H M H M _ H _ w.dom ⟨w, start_slots N r⟩ (fun a ds m => by cases m) ⟨Ent.refl M H, EntM.refl M H⟩
    ⟨fun M' σ' ω' δ' H' p' ow' e' x => q .non .non H' p'.wf.g e'.e.k .non x, fun v d H' g k r' x => q v d H' g k r' x, fun _ _ _ _ _ _ _ _ x => x.elim, fun _ _ _ _ _ _ _ _ x => x.elim, fun _ _ _ _ _ _ _ _ _ _ z => z.elim⟩
theorem body_ofXO {K : PySem.W.Frag} {F : FX} {vs : List V} {H : Hp} {Q : VK} {E : XK} {N : List Str} {t : TS} (h : spX K F vs H Q E)
    (hb : ∀ W ds P X, W.K = K → F ds P X → SO W (fun cls d _ H => E cls d H) t [] (startD N.length ds) (fun _ _ => P .non) P (fun _ _ => False) (fun _ _ => False) (fun x _ => X x)) : t { nx := fun _ H' => Q .non H', rt := Q } (L2.start N vs) H := by
  obtain ⟨W, M, ds, P, X, e, w, r, f, q, qx⟩ := h
  exact hb W ds P X e f M H M H M _ H _ w.dom ⟨w, start_slots N r⟩ (fun a ds m => by cases m) ⟨Ent.refl M H, EntM.refl M H⟩
    ⟨fun M' σ' ω' δ' H' p' ow' e' x => q .non .non H' p'.wf.g e'.e.k .non x, fun v d H' g k r' x => q v d H' g k r' x, fun _ _ _ _ _ _ _ _ x => x.elim, fun _ _ _ _ _ _ _ _ x => x.elim, fun M' σ' δ' H' cls d x p' e' rx hx => qx cls d x H' p'.wf.g e'.k (rx.anti e'.m) hx⟩
end PD
namespace PD
open PySem PySem.Spec PyProof.Rows L2
open PDX PDI PDT
section
variable {W : Wd} {δ : DS} {te : TE}
theorem Slots.keepM {M : Addr → Prop} {H H' : Hp} {σ : L2.St} (w : Wg W M H) (k : KeepM W M H H') (s : Slots W M H σ δ) : Slots W M H' σ δ := ⟨s.len, fun j d hd => by
  obtain ⟨v, a, r⟩ := s.get j d hd
  exact ⟨v, a, r.keepM w k⟩⟩
/-- how a comprehension's list stands: at Dl, since H1 -/
structure Acc (W : Wd) (M1 : Addr → Prop) (H1 : Hp) (Dl : Addr) (acc : List D) (H : Hp) : Prop where
  k : Keep W H1 H
  g : StOk W H
  at_ : ∃ vs, H Dl = some (.lst vs) ∧ Reps W M1 H vs acc
theorem Acc.keep {M1 : Addr → Prop} {H1 H H' : Hp} {Dl : Addr} {acc : List D} (wf : Wf W M1 H) (ns : W.s ≠ some Dl) (a : Acc W M1 H1 Dl acc H) (g : StOk W H') (k : Keep W H H') : Acc W M1 H1 Dl acc H' := by
  obtain ⟨vs, e, r⟩ := a.at_
  exact ⟨a.k.trans k, g, vs, k Dl _ ns e, r.keep wf k⟩
/-- an item more -/
theorem Acc.put {M1 : Addr → Prop} {H1 H : Hp} {Dl : Addr} {acc : List D} {y : V} {d : D} (hD : H1 Dl = none) (ns : W.s ≠ some Dl) (nb : ∀ s, W.s = some s → W.b ≠ Dl) (hM : M1 Dl) (a : Acc W M1 H1 Dl acc H) (r : Rep W M1 H y d) (hl : acc.length < 1000000) :
    ∃ vs, H Dl = some (.lst vs) ∧ vs.length < sizeLine ∧ Acc W M1 H1 Dl (acc ++ [d]) (upd H Dl (.lst (vs ++ [y]))) ∧ KeepM W M1 H (upd H Dl (.lst (vs ++ [y]))) := by
  obtain ⟨vs, e, rr⟩ := a.at_
  have g' : StOk W (upd H Dl (.lst (vs ++ [y]))) := fun s hs => by
    obtain ⟨n, i, c, m, q1, q2, q3, q4⟩ := a.g s hs
    exact ⟨n, i, c, m, by rw [upd_ne (fun z => ns (by rw [hs, z]))]; exact q1, q2, by rw [upd_ne (nb s hs)]; exact q3, q4⟩
  have k' : Keep W H1 (upd H Dl (.lst (vs ++ [y]))) := fun b o n h => by
    rw [upd_ne (ne_of_none h hD)]
    exact a.k b o n h
  refine ⟨vs, e, ?_, ⟨k', g', _, upd_same, ((rr.append (.cons r .nil)).upd (rdT_lst e) hM)⟩, fun b o n l h => ?_⟩
  · rw [rr.length]
    exact Nat.lt_of_lt_of_le hl (by decide)
  · have z : b ≠ Dl := fun z => by
      subst z
      rw [e] at h
      exact l hM _ (Option.some.inj h).symm
    rw [upd_ne z]
    exact h
end
end PD
namespace PD
open PySem PySem.Spec PyProof.Rows L2
open PDX PDI PDT
open AutoSeq1 (wpAny_loadPart')
/-- what the class at C asks of what it is compared with -/
structure EqT (K : PySem.W.Frag) (C f : Addr) : Prop where
  e : PySem.W.findIn K (.ref C) "__eq__" = some (some (.ref f))
  fn : PySem.W.isFn K (.ref f) = true
  yes : PySem.W.kitOne K (.ref C) (.ref C) = some true
  kT : PySem.W.kitOne K (.type "tuple") (.ref C) = some false
  kN : PySem.W.kitOne K (.type "NoneType") (.ref C) = some false
  kS : PySem.W.kitOne K (.type "str") (.ref C) = some false
  lT : PySem.W.subIn K (.type "tuple") (.ref C) = some false
  lN : PySem.W.subIn K (.type "NoneType") (.ref C) = some false
  lS : PySem.W.subIn K (.type "str") (.ref C) = some false
  rT : PySem.W.subIn K (.ref C) (.type "tuple") = some false
  rN : PySem.W.subIn K (.ref C) (.type "NoneType") = some false
  rS : PySem.W.subIn K (.ref C) (.type "str") = some false
def eqB (K : PySem.W.Frag) (C f : Addr) : Bool := decide (PySem.W.findIn K (.ref C) "__eq__" = some (some (.ref f))) && PySem.W.isFn K (.ref f) && decide (PySem.W.kitOne K (.ref C) (.ref C) = some true) &&
  decide (PySem.W.kitOne K (.type "tuple") (.ref C) = some false) && decide (PySem.W.kitOne K (.type "NoneType") (.ref C) = some false) && decide (PySem.W.kitOne K (.type "str") (.ref C) = some false) &&
  decide (PySem.W.subIn K (.type "tuple") (.ref C) = some false) && decide (PySem.W.subIn K (.type "NoneType") (.ref C) = some false) && decide (PySem.W.subIn K (.type "str") (.ref C) = some false) &&
  decide (PySem.W.subIn K (.ref C) (.type "tuple") = some false) && decide (PySem.W.subIn K (.ref C) (.type "NoneType") = some false) && decide (PySem.W.subIn K (.ref C) (.type "str") = some false)
theorem eqT_of {K : PySem.W.Frag} {C f : Addr} (q : eqB K C f = true) : EqT K C f := by
  unfold eqB at q
  simp only [Bool.and_eq_true, decide_eq_true_eq] at q
  obtain ⟨⟨⟨⟨⟨⟨⟨⟨⟨⟨⟨h1, h2⟩, h3⟩, h4⟩, h5⟩, h6⟩, h7⟩, h8⟩, h9⟩, h10⟩, h11⟩, h12⟩ := q
  exact ⟨h1, h2, h3, h4, h5, h6, h7, h8, h9, h10, h11, h12⟩
def isIns (H : Hp) (C : Addr) (y : V) : Prop := ∃ a dx fs, y = .ref a ∧ H a = some (.ins C dx fs)
end PD
namespace PD
open PySem PySem.Spec PyProof.Rows L2
open PDX PDI PDT
section
variable {W : Wd} {δ : DS} {P : D → Prop}
def isPl3 : D → Bool
  | .non | .str _ | .tup _ => true
  | _ => false
theorem ev_obj {a : Addr} (h : P (.obj a)) : EvD W (tC (.ref a)) δ P := fun M σ H p Q q => q _ _ H p.wf.g (Keep.refl H) (.obj a) h
/-- isinstance(x, C), C an own class -/
theorem rc_isiE {C f : Addr} {ns : List Str} {ds : List D} (T : EqT W.K C f) (o : OCls W.K C) (h : P (.bl true)) : RCD W (rIsi W.K) [.ins C ns ds, .obj C] P := fun M H vs w r Q q => by
  cases r with
  | cons r1 r2 =>
    cases r2 with
    | cons r2 r3 =>
      cases r3
      cases r2
      exact ⟨_, _, _, _, true, rfl, .own C, tyxO o r1, T.yes, q _ _ H w.g (Keep.refl H) (.bl true) h⟩
theorem rc_isiP {C f : Addr} {x : D} (T : EqT W.K C f) (hx : isPl3 x = true) (h : P (.bl false)) : RCD W (rIsi W.K) [x, .obj C] P := fun M H vs w r Q q => by
  cases r with
  | cons r1 r2 =>
    cases r2 with
    | cons r2 r3 =>
      cases r3
      cases r2
      have no : ∃ n, x.tyName = some n ∧ PySem.W.kitOne W.K (.type n) (.ref C) = some false := by
        cases x <;> first | exact ⟨_, rfl, T.kN⟩ | exact ⟨_, rfl, T.kS⟩ | exact ⟨_, rfl, T.kT⟩ | cases hx
      obtain ⟨n, hn, hk⟩ := no
      exact ⟨_, _, _, _, false, rfl, .own C, tyx r1 hn, hk, q _ _ H w.g (Keep.refl H) (.bl false) h⟩
end
abbrev rListOf (K : PySem.W.Frag) : List V → Hp → VK → Prop := fun xs H Q => ∃ p ys, xs = [.ref p] ∧ (SqL K H p ys ∨ SqT K H p ys) ∧ ∀ l, H l = none → Q (.ref l) (upd H l (.lst ys))
section
variable {W : Wd} {Wx : WX} {X : XV → DS → Prop} {δ : DS} {N : DS → Prop} {R : D → Prop} {B C : DS → Prop} {ts : TS}
theorem stok_put {H1 H : Hp} {a : Addr} {o : HO} (hD : H1 a = none) (g1 : StOk W H1) (g : StOk W H) : StOk W (upd H a o) := fun s hs => by
  obtain ⟨n, i, c, m, q1, q2, q3, q4⟩ := g s hs
  obtain ⟨_, _, _, _, z1, _, z3, _⟩ := g1 s hs
  exact ⟨n, i, c, m, by rw [upd_ne (ne_of_none z1 hD)]; exact q1, q2, by rw [upd_ne (ne_of_none z3 hD)]; exact q3, q4⟩
/-- a list at L, of new lists, as many as there are rows so far -/
structure Nest (W : Wd) (M : Addr → Prop) (H1 : Hp) (L : Addr) (as : List Addr) (rows : List (List D)) (n : Nat) (H : Hp) : Prop where
  k : Keep W H1 H
  g : StOk W H
  at_ : H L = some (.lst (as.map V.ref))
  len : as.length = n
  each : ∀ (j : Nat) (a : Addr), as[j]? = some a → ∃ cs vs, rows[j]? = some cs ∧ H a = some (.lst vs) ∧ Reps W (fun b => M b ∨ b = L) H vs cs
  off : ∀ a ∈ as, H1 a = none ∧ a ≠ L
  nod : as.Nodup
theorem nest_lists {M : Addr → Prop} {H1 H : Hp} {L : Addr} {as : List Addr} {rows : List (List D)} {n : Nat} (w : Wf W M H1) (hL : H1 L = none) (h : Nest W M H1 L as rows n H) (hn : n = rows.length) : Rep W M H (.ref L) (.lst (rows.map .lst)) := by
  have out : ∀ a, H1 a = none → ¬ M a := fun a z m => by
    obtain ⟨o, ho⟩ := w.dom a m
    rw [z] at ho
    cases ho
  refine .lst (out L hL) h.at_ ?_
  have all : ∀ (as : List Addr) (rows : List (List D)), as.length = rows.length → (∀ (j : Nat) (a : Addr), as[j]? = some a → ∃ cs vs, rows[j]? = some cs ∧ H a = some (.lst vs) ∧ Reps W (fun b => M b ∨ b = L) H vs cs) → (∀ a ∈ as, H1 a = none) → Reps W M H (as.map V.ref) (rows.map .lst) := by
    intro as
    induction as with
    | nil => intro rows hl _ _; cases rows with
      | nil => exact .nil
      | cons _ _ => cases hl
    | cons a as ih => intro rows hl he ho; cases rows with
      | nil => cases hl
      | cons cs rows =>
        obtain ⟨cs', vs, e1, e2, e3⟩ := he 0 a rfl
        cases e1
        exact .cons (.lst (out a (ho a List.mem_cons_self)) e2 (e3.anti fun _ z => .inl z)) (ih rows (Nat.succ.inj hl) (fun j b hb => he (j + 1) b hb) fun b hb => ho b (List.mem_cons_of_mem _ hb))
  exact all as rows (h.len.trans hn) h.each fun a ha => (h.off a ha).1
/-- [list(x) for x in ..] -/
theorem lc_lists {wi : TI} {v : Nat} {M : Addr → Prop} {σ : L2.St} {H : Hp} {Q : VK} (hv : v < σ.length) (p : Pre W M δ σ H) {Pr : List (List D) → Prop} (h : IterD W wi δ fun ds => ∃ rows : List (List D), ds = rows.map .tup ∧ rows.length ≤ 100000 ∧ Pr rows)
    (q : ∀ (H1 H' : Hp) (L : Addr) (as : List Addr) (rows : List (List D)), StOk W H1 → Keep W H H1 → H1 L = none → Nest W M H1 L as rows rows.length H' → Pr rows → Q (.ref L) H') : tLc wi (gName v) tYes (tCB (rListOf W.K) (tCons (tVar v) tNil)) [v] σ H Q :=
  h M σ H p _ fun J H1 ds g1 k1 ⟨rows, hds, hl, hP⟩ src => by
    subst hds
    intro L hL
    have p1 := p.next g1 k1
    let M' : Addr → Prop := fun b => M b ∨ b = L
    have hm : ∀ b, M b → M' b := fun _ z => .inl z
    have hn : ∀ b, M' b → ¬ M b → H1 b = none := fun b x y => by
      rcases x with x | x
      · exact absurd x y
      · rw [x]; exact hL
    refine ⟨fun i m H' => m = rows.length - i ∧ i ≤ rows.length ∧ ∃ as, Nest W M H1 L as rows i H', ⟨_, rfl, Nat.zero_le _, [], ⟨Keep.new hL, g1.new hL, upd_same, rfl, fun j a z => by simp at z, fun a z => (by cases z), List.nodup_nil⟩⟩, ?_⟩
    rintro i m H' ⟨rfl, hi, as, A⟩
    obtain ⟨s1, s2⟩ := src M' hm hn i H' A.k.toM A.g
    by_cases hlt : i < rows.length
    · have hd : (rows.map D.tup)[i]? = some (.tup rows[i]) := by rw [List.getElem?_map, List.getElem?_eq_getElem hlt]; rfl
      obtain ⟨hgo, hy⟩ := s2 _ hd
      refine .inr ⟨hgo, fun H2 => ∃ as, Nest W M H1 L as rows (i + 1) H2, ?_, fun x H3 y => ?_⟩
      · rintro H2 ⟨as2, z⟩
        exact ⟨_, by omega, rfl, hlt, as2, z⟩
      · obtain ⟨g3, k3, r3⟩ := hy x H3 y
        have wA : Wf W M' H' := ⟨A.g, fun b z => .inl (p1.wf.sm b z), fun b x => by
          rcases x with x | x
          · exact (p1.wf.next A.g A.k).dom b x
          · rw [x]; exact ⟨_, A.at_⟩⟩
        have w3 : Wf W M' H3 := wA.next g3 k3
        have nsN : ∀ b, H1 b = none → W.s ≠ some b := fun b hb z => by
          obtain ⟨_, _, _, _, q1, _⟩ := g1 b z
          rw [hb] at q1
          cases q1
        cases r3 with
        | @tup a vs cs hs hr =>
          have atL : H3 L = some (.lst (as.map V.ref)) := k3 L _ (nsN L hL) A.at_
          refine ⟨by rw [wipe_set (by simp), wipe_wipe], ?_⟩
          simp only [tYes, if_true]
          refine ⟨.ref a, by rw [List.getElem?_set_self (by rw [wipe_length]; exact hv)], a, vs, rfl, .inr hs, fun l hlf => ?_⟩
          have nl : L ≠ l := ne_of_none atL hlf
          refine ⟨as.map V.ref, by rw [upd_ne nl]; exact atL, ?_, as ++ [l], ?_⟩
          · rw [List.length_map, A.len]
            exact Nat.lt_of_lt_of_le hlt (Nat.le_trans hl (by decide))
          · have off : H1 l = none := by
              cases z : H1 l with
              | none => rfl
              | some o =>
                have ns : W.s ≠ some l := fun e => by
                  obtain ⟨_, _, _, _, q1, _⟩ := g3 l e
                  rw [hlf] at q1
                  cases q1
                rw [k3 l o ns (A.k l o ns z)] at hlf
                cases hlf
            have kk : ∀ {b : Addr} {o : HO}, H3 b = some o → b ≠ L → upd (upd H3 l (.lst vs)) L (.lst (as.map V.ref ++ [.ref l])) b = some o := fun {b o} e z => by
              rw [upd_ne z, upd_ne (ne_of_none e hlf)]
              exact e
            have kS : Keep W H3 (upd H3 l (.lst vs)) := Keep.new hlf
            have up : ∀ {us : List V} {es : List D}, Reps W M' H3 us es → Reps W M' (upd (upd H3 l (.lst vs)) L (.lst (as.map V.ref ++ [.ref l]))) us es := fun {us es} r =>
              (r.keep w3 kS).upd (p := L) (rdT_lst (by rw [upd_ne nl]; exact atL)) (.inr rfl)
            refine ⟨fun b o ns e => kk (k3 b o ns (A.k b o ns e)) (ne_of_none e hL), stok_put hL g1 (g3.new hlf), by rw [upd_same, List.map_append]; rfl, by rw [List.length_append, A.len]; rfl, fun j b hb => ?_, fun b hb => ?_, ?_⟩
            · by_cases hj : j < as.length
              · rw [List.getElem?_append_left hj] at hb
                obtain ⟨ds, us, e1, e2, e3⟩ := A.each j b hb
                have mem := A.off b (List.mem_of_getElem? hb)
                exact ⟨ds, us, e1, kk (k3 b _ (nsN b mem.1) e2) mem.2, up (e3.keep wA k3)⟩
              · have ej : j = as.length := by
                  have := (List.getElem?_eq_some_iff.mp hb).1
                  rw [List.length_append] at this
                  have one : [l].length = 1 := rfl
                  omega
                subst ej
                rw [List.getElem?_append_right (Nat.le_refl _), Nat.sub_self] at hb
                cases hb
                exact ⟨rows[i], vs, by rw [A.len]; exact List.getElem?_eq_getElem hlt, by rw [upd_ne nl.symm, upd_same], up hr⟩
            · rcases List.mem_append.mp hb with hb | hb
              · exact A.off b hb
              · rw [List.mem_singleton.mp hb]
                exact ⟨off, nl.symm⟩
            · rw [List.nodup_append]
              refine ⟨A.nod, by simp, fun b hb c hc e => ?_⟩
              rw [List.mem_singleton.mp hc] at e
              obtain ⟨j, hj⟩ := List.mem_iff_getElem?.mp hb
              obtain ⟨ds, us, e1, e2, e3⟩ := A.each j b hj
              rw [e] at e2 hb
              rw [k3 l _ (nsN l (A.off l hb).1) e2] at hlf
              cases hlf
    · have ee : i = rows.length := by omega
      subst ee
      exact .inl ⟨s1 (by rw [List.length_map]), q H1 H' L as rows g1 k1 hL A hP⟩
/-- .. an item of one of them told anew -/
theorem nest_set {M : Addr → Prop} {H1 H : Hp} {L : Addr} {as : List Addr} {rows : List (List D)} {n i j : Nat} {a : Addr} {cs : List D} {vs : List V} {v : V} {d : D} (g1 : StOk W H1) (w : Wf W M H) (hL : H1 L = none) (A : Nest W M H1 L as rows n H) (ha : as[i]? = some a) (hc : rows[i]? = some cs)
    (hv : H a = some (.lst vs)) (rv : Rep W M H v d) (nd : d.nref = true) (nr : ∀ e ∈ rows, D.nrefs e = true) : Nest W M H1 L as (rows.set i (cs.set j d)) n (upd H a (.lst (vs.set j v))) := by
  have off := A.off a (List.mem_of_getElem? ha)
  have up : ∀ {us : List V} {es : List D}, Reps W (fun b => M b ∨ b = L) H us es → D.nrefs es = true → Reps W (fun b => M b ∨ b = L) (upd H a (.lst (vs.set j v))) us es := fun {us es} r z =>
    (((r.nref (M2 := fun _ => True) z).upd (p := a) (rdT_lst hv) trivial).nref z)
  have rv2 : Rep W (fun b => M b ∨ b = L) (upd H a (.lst (vs.set j v))) v d := (((rv.nref (M2 := fun _ => True) nd).upd (p := a) (rdT_lst hv) trivial).nref nd)
  refine ⟨fun b o ns e => ?_, stok_put off.1 g1 A.g, by rw [upd_ne off.2.symm]; exact A.at_, A.len, fun k b hb => ?_, A.off, A.nod⟩
  · rw [upd_ne (ne_of_none e off.1)]
    exact A.k b o ns e
  · obtain ⟨ds, us, e1, e2, e3⟩ := A.each k b hb
    by_cases z : k = i
    · subst z
      rw [ha] at hb
      cases hb
      rw [hv] at e2
      cases e2
      rw [hc] at e1
      cases e1
      have hl := (List.getElem?_eq_some_iff.mp hc).1
      exact ⟨cs.set j d, vs.set j v, List.getElem?_set_self hl, upd_same, (up e3 (nr cs (List.mem_of_getElem? hc))).setR j rv2⟩
    · have ne : b ≠ a := fun e => by
        rw [e] at hb
        exact z (nd_ix A.nod hb ha)
      exact ⟨ds, us, by rw [List.getElem?_set_ne (fun q => z q.symm)]; exact e1, by rw [upd_ne ne]; exact e2, up e3 (nr ds (List.mem_of_getElem? e1))⟩
theorem sx_nestSet {r v t ri rj : Nat} {wi : TI} (hv : v < δ.length) (hr : r < δ.length) (n1 : r ≠ t) (n2 : r ≠ ri) (n3 : r ≠ rj) (h : IterD W wi δ fun ds => ∃ rows : List (List D), ds = rows.map .tup ∧ rows.length ≤ 100000 ∧ ∃ (i j : Nat) (cs : List D) (d : D), rows[i]? = some cs ∧ j < cs.length ∧
      δ[ri]? = some (some (.int (i : Int))) ∧ δ[rj]? = some (some (.int (j : Int))) ∧ δ[t]? = some (some d) ∧ d.nref = true ∧ (∀ e ∈ rows, D.nrefs e = true) ∧ SX W Wx ts (δ.set r (some (.lst ((rows.set i (cs.set j d)).map .lst)))) N R B C X) :
    SX W Wx (tSeq (tAsg (tLc wi (gName v) tYes (tCB (rListOf W.K) (tCons (tVar v) tNil)) [v]) (gName r)) (tSeq (tAsg (tVar t) (gSub (tOp (rIx W.K) (tVar r) (tVar ri)) (tVar rj) rSetL)) ts)) δ N R B C X := fun M0 H0 M σ H E p e o => by
  refine lc_lists (Q := fun x H1 => gName r x σ H1 _) (by rw [p.sl.len]; exact hv) p h fun H1 H' L as rows g1 k1 hL A hP => ?_
  obtain ⟨i, j, cs, d, hi, hj, e1, e2, e3, nd, nr, hts⟩ := hP
  have p1 := p.next g1 k1
  have p2 := p1.next A.g A.k
  obtain ⟨vt, st, rt⟩ := p2.sl.get t _ e3
  obtain ⟨vi, si, ri'⟩ := p2.sl.get ri _ e1
  obtain ⟨vj, sj, rj'⟩ := p2.sl.get rj _ e2
  cases ri'
  cases rj'
  have hl : i < as.length := by rw [A.len]; exact (List.getElem?_eq_some_iff.mp hi).1
  have ha : as[i]? = some as[i] := List.getElem?_eq_getElem hl
  obtain ⟨cs', vs, q1, q2, q3⟩ := A.each i _ ha
  rw [hi] at q1
  cases q1
  have hs : r < σ.length := by rw [p.sl.len]; exact hr
  refine ⟨vt, by rw [List.getElem?_set_ne n1]; exact st, .ref L, List.getElem?_set_self hs, .int i, by rw [List.getElem?_set_ne n2]; exact si, .inl ⟨L, as.map V.ref, i, .ref as[i], rfl, rfl, SqL.of A.at_, atI_nat (by rw [List.getElem?_map, ha]; rfl), ?_⟩⟩
  refine ⟨.int j, by rw [List.getElem?_set_ne n3]; exact sj, as[i], vs, j, j, rfl, rfl, q2, ?_, ?_⟩
  · unfold ixN
    have := q3.length
    simp
    omega
  · have G := nest_set (j := j) g1 p2.wf hL A ha hi q2 rt nd nr
    have kk : Keep W H (upd H' as[i] (.lst (vs.set j vt))) := k1.trans G.k
    have len : rows.length = (rows.set i (cs.set j d)).length := by rw [List.length_set]
    have p3 := p.next G.g kk
    exact hts M0 H0 M _ _ E ⟨p3.wf, p3.sl.set r (nest_lists p1.wf hL G len)⟩ (e.next kk) o
end
end PD
namespace PD
open PySem PySem.Spec PyProof.Rows L2
open PDX PDI PDT
abbrev gd (C : Addr) (n : Int) (xs : List D) : D := .ins C ["bases", "rows"] [.int n, .tup xs]
/-- so many columns, each cell a right one -/
structure Grd (n : Int) (m : Nat) (xs : List D) : Prop where
  n1 : 1 ≤ n
  n3 : n ≤ 3
  l1 : 1 ≤ xs.length
  l10 : xs.length ≤ 10
  m1 : 1 ≤ m
  m10 : m ≤ 10
  row : ∀ e ∈ xs, ∃ cs, e = .tup cs ∧ cs.length = m ∧ ∀ c ∈ cs, isCl n c = true
theorem Grd.ok {n : Int} {m : Nat} {xs : List D} (g : Grd n m xs) : GridOk n xs := ⟨g.n1, g.n3, g.l1, g.l10, m, g.m1, g.m10, g.row⟩
theorem Grd.at {n : Int} {m : Nat} {xs : List D} (g : Grd n m xs) {i : Nat} {e : D} (h : xs[i]? = some e) : ∃ cs, e = .tup cs ∧ cs.length = m ∧ ∀ c ∈ cs, isCl n c = true := g.row e (List.mem_of_getElem? h)
theorem Grd.at' {n : Int} {m : Nat} {xs : List D} (g : Grd n m xs) {i : Nat} (h : i < xs.length) : ∃ cs, xs[i]? = some (.tup cs) ∧ cs.length = m ∧ ∀ c ∈ cs, isCl n c = true := by
  obtain ⟨cs, e, h2⟩ := g.row xs[i] (List.getElem_mem h)
  exact ⟨cs, by rw [List.getElem?_eq_getElem h, e], h2⟩
theorem Grd.head {n : Int} {m : Nat} {xs : List D} (g : Grd n m xs) : ∃ cs, xs[0]? = some (.tup cs) ∧ cs.length = m ∧ D.len (xs.headD .non) = m := by
  have l1 := g.l1
  obtain ⟨cs, e, h, _⟩ := g.at' (i := 0) (by omega)
  refine ⟨cs, e, h, ?_⟩
  cases xs with
  | nil => cases e
  | cons y ys =>
    cases e
    show (cs.length : Int) = m
    omega
theorem Grd.wrong {n : Int} {m : Nat} {xs : List D} (g : Grd n m xs) : wrongD (.int n) (.tup xs) = .non := by
  have len : hasLen (.tup xs) = true := by
    show (decide (1 ≤ xs.length) && decide (xs.length ≤ 10)) = true
    rw [decide_eq_true g.l1, decide_eq_true g.l10]
    rfl
  rw [wrongD_in g.n1 g.n3, if_pos len]
  obtain ⟨_, _, _, hd⟩ := g.head
  have rows : xs.findIdx? (badRow xs) = none := by
    rw [List.findIdx?_eq_none_iff]
    intro e he
    obtain ⟨cs, rfl, hm, _⟩ := g.row e he
    have m1 := g.m1
    have m10 := g.m10
    unfold badRow
    rw [hd]
    show (!(decide (1 ≤ cs.length) && decide (cs.length ≤ 10)) || decide (¬ (cs.length : Int) = m)) = false
    rw [decide_eq_true (show 1 ≤ cs.length by omega), decide_eq_true (show cs.length ≤ 10 by omega), decide_eq_false (show ¬ ¬ (cs.length : Int) = m by omega)]
    rfl
  have cells : xs.findIdx? (badIn n) = none := by
    rw [List.findIdx?_eq_none_iff]
    intro e he
    obtain ⟨cs, rfl, _, hc⟩ := g.row e he
    unfold badIn
    rw [List.any_eq_false]
    intro c hc'
    rw [hc c hc']
    simp
  show wrongR n xs = .non
  unfold wrongR wrongC
  rw [rows, cells]
theorem Grd.set {n : Int} {m : Nat} {xs cs : List D} (g : Grd n m xs) {i j : Nat} {t : D} (hi : xs[i]? = some (.tup cs)) (ht : isCl n t = true) : Grd n m (xs.set i (.tup (cs.set j t))) := by
  obtain ⟨cs', e, hm, hc⟩ := g.at hi
  cases e
  refine ⟨g.n1, g.n3, by rw [List.length_set]; exact g.l1, by rw [List.length_set]; exact g.l10, g.m1, g.m10, fun e he => ?_⟩
  rcases List.mem_or_eq_of_mem_set he with he | rfl
  · exact g.row e he
  · refine ⟨_, rfl, by rw [List.length_set]; exact hm, fun c hc' => ?_⟩
    rcases List.mem_or_eq_of_mem_set hc' with hc' | rfl
    · exact hc c hc'
    · exact ht
theorem cl_nref {n : Int} {c : D} (h : isCl n c = true) : c.nref = true := by
  rcases cl_of h with rfl | ⟨u, rfl, _⟩
  · simp only [D.nref]
  · exact nref_un u
theorem Grd.nrefs {n : Int} {m : Nat} {xs cs : List D} (g : Grd n m xs) (h : D.tup cs ∈ xs) : D.nrefs cs = true := by
  obtain ⟨cs', e, _, hc⟩ := g.row _ h
  cases e
  exact nrefs_of fun c hc' => cl_nref (hc c hc')
theorem Grd.fine {n : Int} {m : Nat} {xs : List D} (g : Grd n m xs) : (D.tup xs).fine = true := lays_fine g.ok.lays (by decide)
/-- is it the number of one of so many -/
def inI (x : D) (n : Int) : Bool := x.isInt && decide (0 ≤ x.toI) && decide (x.toI < n)
theorem inI_of {x : D} {n : Int} (h : inI x n = true) : ∃ a : Nat, x = .int (a : Int) ∧ (a : Int) < n := by
  unfold inI at h
  simp only [Bool.and_eq_true, decide_eq_true_eq] at h
  obtain ⟨i, rfl⟩ := isInt_of h.1.1
  obtain ⟨a, rfl⟩ := Int.eq_ofNat_of_zero_le h.1.2
  exact ⟨a, rfl, h.2⟩
theorem inI_nat {a : Nat} {n : Int} : inI (.int (a : Int)) n = decide ((a : Int) < n) := by
  show (true && decide ((0 : Int) ≤ a) && decide ((a : Int) < n)) = _
  rw [decide_eq_true (show (0 : Int) ≤ a by omega)]
  rfl
end PD
namespace PD
open PySem PySem.Spec PyProof.Rows L2
open PDX PDI PDT
open AutoSeq1 (wpAny_loadPart')
theorem Grd.jd {K : PySem.W.Frag} {n : Int} {m : Nat} {xs : List D} (g : Grd n m xs) : Jd K (.tup xs) := (Gd.tup (fun x hx => by
  obtain ⟨cs, rfl, hl, hc⟩ := g.row x hx
  exact Gd.tup (fun y hy => cl_gd g.n3 (hc y hy)) (by have := g.m10; omega)) (by have := g.l10; omega)).j
end PD
namespace PDZ
open PySem PySem.Spec PyProof.Rows L2 RZ
section
variable {w : World} {prog : Program} {s : Shared} {A : Around} {E : Value → Shared → Prop}
abbrev zo (h : Heap) (z TI TO : Addr) (v : Value) (f : Bool) : Prop := h.get? z = some { cls := .type "zip", dict := none, data := .fields #[v, .bool f, .bool false, .ref TI, .ref TO], slots := #[] }
/-- is the pair that was handed out last still there? whichever, a new one comes -/
theorem zip_free {z TI TO : Addr} {v : Value} {f : Bool} {Q : Bool → Shared → Prop} (hv : v = .none ∨ ∃ T : Addr, v = rawInt T) (hz : zo s.heap z TI TO v f)
    (h : ∀ b h' f', zo h' z TI TO v f' → Heap.SameBut z s.heap h' → Q b { s with heap := h' }) : wpAny (model prog w) A (Builtin.SmallTypes.ownedTupleIsFree (.ref z)) Q E s := by
  unfold Builtin.SmallTypes.ownedTupleIsFree
  rcases hv with rfl | ⟨T, rfl⟩
  · exact wpAny_bind (wpAny_field hz rfl (x := .none) rfl (wpAny_pure (h true s.heap f hz (Heap.SameBut.refl _ _))))
  · refine wpAny_bind (wpAny_field hz rfl (x := rawInt T) rfl ?_)
    have there : ∀ {a : Addr} {R : Option Obj → Shared → Prop}, R (s.heap.get? a) s → wpAny (model prog w) A (loadIfAlive a) R E s := fun q _ _ _ => q
    refine wpAny_bind (m := loadIfAlive (T : Int).toNat) (there ?_)
    cases s.heap.get? (T : Int).toNat with
    | none => exact wpAny_pure (h true s.heap f hz (Heap.SameBut.refl _ _))
    | some o =>
      cases f with
      | true => exact wpAny_bind (wpAny_field hz rfl (x := .bool true) rfl (wpAny_pure (h false s.heap true hz (Heap.SameBut.refl _ _))))
      | false => exact wpAny_bind (wpAny_field hz rfl (x := .bool false) rfl (wpAny_bind (wpAny_setField_rec hz (by simp) fun g z' b' => wpAny_pure (h false g true z' b'))))
/-- how a zip over two tuples stands at its i-th turn, whatever became of its pairs -/
structure ZSt (a b z TI TO i1 i2 : Addr) (i : Nat) (h : Heap) : Prop where
  ob : ∃ v f, (v = .none ∨ ∃ T : Addr, v = rawInt T) ∧ zo h z TI TO v f
  pI : IsPair h TI (.ref i1) (.ref i2)
  pO : ∃ c d, IsPair h TO c d
  t1 : h.IsTupleIter i1 a i
  t2 : h.IsTupleIter i2 b i
theorem five {z TI TO i1 i2 c : Addr} (h : c ∈ [z, TI, TO, i1, i2]) : c = z ∨ c = TI ∨ c = TO ∨ c = i1 ∨ c = i2 := by
  simp only [List.mem_cons, List.not_mem_nil, or_false] at h
  exact h
theorem ZSt.has {a b z TI TO i1 i2 c : Addr} {i : Nat} {h : Heap} (st : ZSt a b z TI TO i1 i2 i h) (hc : c ∈ [z, TI, TO, i1, i2]) : ∃ o, h.get? c = some o ∧ ∀ v, o.data ≠ .cell v := by
  obtain ⟨v, f, _, ho⟩ := st.ob
  obtain ⟨c1, d1, hO⟩ := st.pO
  obtain ⟨o1, e1, _, q1⟩ := st.t1
  obtain ⟨o2, e2, _, q2⟩ := st.t2
  rcases five hc with rfl | rfl | rfl | rfl | rfl
  · exact ⟨_, ho, fun u y => by cases y⟩
  · exact ⟨_, st.pI, fun u y => by cases y⟩
  · exact ⟨_, hO, fun u y => by cases y⟩
  · exact ⟨o1, e1, fun u y => by rw [q1] at y; cases y⟩
  · exact ⟨o2, e2, fun u y => by rw [q2] at y; cases y⟩
end
end PDZ
namespace PD
open PySem PySem.Spec PyProof.Rows L2 PDZ
end PD
namespace PD
open PySem PySem.Spec PyProof.Rows L2
open PDX PDI PDT PDZ
def numP : D → Bool
  | .tup [u, x] => isFr x && (!u.isNon || decide (topD x = 0))
  | _ => false
/-- cells and what stands beside them, row by row -/
def besD (xs rows : List D) : List D := (List.zipWith (fun e r => zipD (items e) (items r)) xs rows).flatten
structure Shp (m : Nat) (xs rows : List D) : Prop where
  l : rows.length = xs.length
  r : ∀ e ∈ rows, ∃ cs, e = .tup cs ∧ cs.length = m
theorem Shp.at {m : Nat} {xs rows : List D} (s : Shp m xs rows) {i : Nat} {e : D} (h : rows[i]? = some e) : ∃ cs, e = .tup cs ∧ cs.length = m := s.r e (List.mem_of_getElem? h)
theorem Grd.tup {n : Int} {m : Nat} {xs : List D} (g : Grd n m xs) : ∀ e ∈ xs, ∃ cs, e = .tup cs ∧ cs.length = m := fun e he => by
  obtain ⟨cs, h1, h2, _⟩ := g.row e he
  exact ⟨cs, h1, h2⟩
theorem jd_fr (K : PySem.W.Frag) (p : Fr) : Jd K (fr p) := by simp only [Jd, JdA, and_self]
end PD
namespace PD
open PySem PySem.Spec PyProof.Rows L2
open PDX PDI PDT PDZ
/-- numbers that are there, of some size -/
def NumS (k : Nat) (rows : List D) : Prop := ∀ r ∈ rows, ∀ y ∈ items r, ∃ q : Fr, y = fr q ∧ IsF q ∧ Sz k q
/-- judged, and no int within is great -/
structure Js (K : PySem.W.Frag) (x : D) : Prop where
  j : Jd K x
  s : x.small = true
theorem Js.ty {K : PySem.W.Frag} {x : D} (h : Js K x) : Jd1 K x := jd_ty h.j
theorem Js.mem {K : PySem.W.Frag} {xs : List D} (h : Js K (.tup xs)) {x : D} (hx : x ∈ xs) : Js K x := ⟨by
    have := h.j
    simp only [Jd] at this
    exact jd_mem this hx, by
    have := h.s
    simp only [D.small] at this
    exact smalls_mem this hx⟩
theorem smalls_of {xs : List D} (h : ∀ x ∈ xs, x.small = true) : D.smalls xs = true := by
  induction xs with
  | nil => simp only [D.smalls]
  | cons y ys ih =>
    simp only [D.smalls, Bool.and_eq_true]
    exact ⟨h y List.mem_cons_self, ih fun x hx => h x (List.mem_cons_of_mem _ hx)⟩
theorem Js.tup {K : PySem.W.Frag} {xs : List D} (h : ∀ x ∈ xs, Js K x) : Js K (.tup xs) := ⟨by
    simp only [Jd]
    exact jdA_of fun x hx => (h x hx).j, by
    simp only [D.small]
    exact smalls_of fun x hx => (h x hx).s⟩
theorem Js.fr (K : PySem.W.Frag) {p : Fr} (h : Sz 8000 p) : Js K (fr p) := ⟨jd_fr K p, fr_small h⟩
/-- numbers for a grid, of some size -/
structure Nums (m k : Nat) (xs rows : List D) : Prop where
  s : Shp m xs rows
  n : NumS k rows
  p : (besD xs rows).all numP = true
theorem Nums.len {m k : Nat} {xs rows : List D} {n : Int} (g : Grd n m xs) (h : Nums m k xs rows) : (D.tup rows).len ≤ 1000 := by
  have := h.s.l
  have := g.l10
  show (rows.length : Int) ≤ 1000
  omega
theorem Nums.fine {m k : Nat} {xs rows : List D} (h : Nums m k xs rows) : (D.tup rows).fine = true := lays_fine (n := 3) (lays_tup fun r hr => by
  obtain ⟨cs, rfl, _⟩ := h.s.r r hr
  refine lays_tup fun y hy => ?_
  obtain ⟨q, rfl, _⟩ := h.n _ hr y hy
  rfl) (by decide)
def Has (ω : Om) (p : Addr) (es : List D) : Prop := (p, es) ∈ ω ∧ ∀ ds, (p, ds) ∈ ω → ds = es
theorem Has.cons {ω : Om} {p q : Addr} {es ds : List D} (h : Has ω p es) (n : p ≠ q) : Has ((q, ds) :: ω) p es := ⟨List.mem_cons_of_mem _ h.1, fun x hx => by
  rcases List.mem_cons.mp hx with z | z
  · cases z
    exact absurd rfl n
  · exact h.2 x z⟩
theorem Has.new {ω : Om} {q : Addr} {ds : List D} (n : ∀ x ∈ ω, x.1 ≠ q) : Has ((q, ds) :: ω) q ds := ⟨List.mem_cons_self, fun x hx => by
  rcases List.mem_cons.mp hx with z | z
  · cases z
    rfl
  · exact absurd rfl (n _ z)⟩
theorem Has.put {ω : Om} {p : Addr} {es : List D} {f : List D → List D} (h : Has ω p es) : Has (putO ω p f) p (f es) := ⟨List.mem_map.mpr ⟨(p, es), h.1, by rw [if_pos rfl]⟩, fun x hx => by
  obtain ⟨ds, h1, rfl⟩ := mem_putO hx
  rw [if_pos rfl, h.2 ds h1]⟩
theorem Has.off {ω : Om} {p q : Addr} {es : List D} {f : List D → List D} (h : Has ω p es) (n : p ≠ q) : Has (putO ω q f) p es := ⟨List.mem_map.mpr ⟨(p, es), h.1, by rw [if_neg n]⟩, fun x hx => by
  obtain ⟨ds, h1, rfl⟩ := mem_putO hx
  rw [if_neg n]
  exact h.2 ds h1⟩
/-- xs.append(e), e reading lists of one's own -/
theorem so_appL {W : Wd} {Wx : WX} {X : XV → DS → Prop} {ω : Om} {δ : DS} {N : Om → DS → Prop} {R : D → Prop} {B C : Om → DS → Prop} {te : TE} {i : Nat} {a : Addr} {ds : List D} (hi : δ[i]? = some (some (.obj a))) (hm : Has ω a ds) (hu : ds.length < 100000)
    (h : EvL W te ω δ fun d => d.nref = true ∧ N (putO ω a fun es => es ++ [d]) δ) : SO W Wx (tDrop (tBM W.K "list" rAppend (tVar i) (tCons te tNil))) ω δ N R B C X := fun M0 H0 M1 L1 M σ H E d0 p ow e o => by
  obtain ⟨v, s1, r1⟩ := p.sl.get i _ hi
  cases r1
  obtain ⟨hM, n0, ns, nb, vs, ha, rr⟩ := ow a ds hm.1
  obtain ⟨p2, l2⟩ := own_lend p ow
  refine ⟨_, s1, .inl ⟨rfl, _, SqL.of ha⟩, h _ σ H p2 l2 _ fun u d H1 g1 k1 r1 h1 => ?_⟩
  have ha1 := k1 a _ ns ha
  refine ⟨a, vs, u, rfl, rfl, ha1, ?_, ?_⟩
  · rw [rr.length]
    exact Nat.lt_of_lt_of_le hu (by decide)
  · have one : ∀ es, (a, es) ∈ ω → Reps W M H1 (vs ++ [u]) (es ++ [d]) := fun es m => by
      obtain ⟨_, _, _, _, vs', q1, q2⟩ := ow a es m
      rw [ha] at q1
      cases q1
      exact (q2.keep p.wf k1).append (.cons (r1.nref h1.1) .nil)
    obtain ⟨x1, x2, x3⟩ := own_upd (f := fun es => es ++ [d]) (p.next g1 k1) (ow.keep p.wf k1) (e.next p.wf k1) d0 hm.1 one
    exact o.nx M _ _ _ _ x1 x2 x3 h1.2
/-- the first rows, filled -/
structure FilL (k : Nat) (cs line : List D) : Prop where
  l : line.length = k
  c : ∀ (j : Nat) (u y : D), cs[j]? = some u → line[j]? = some y → ∃ q : Fr, y = fr q ∧ IsF q ∧ Sz 134 q ∧ numP (.tup [u, y]) = true
theorem FilL.nref {k : Nat} {cs line : List D} (h : FilL k cs line) (hl : k ≤ cs.length) : (D.tup line).nref = true := nref_tup fun y hy => by
  obtain ⟨j, hj⟩ := List.mem_iff_getElem?.mp hy
  have := (List.getElem?_eq_some_iff.mp hj).1
  have := h.l
  obtain ⟨q, rfl, _⟩ := h.c j _ y (List.getElem?_eq_getElem (by omega)) hj
  exact nref_fr q
end PD
namespace PD
open PySem PySem.Spec PyProof.Rows L2
open PDX PDI PDT
theorem hr_u1 {k : Nat} {A : Around} (hr : Room k A) : A.units + 1 < cLine := by
  have := hr_u hr
  omega
section
variable {X : Cx} {K : PySem.W.Frag} {w : World}
theorem ix_kdK (h : X.K = K) (hw : X.w = w) : IxR X (rIxD K w) := by subst h; subst hw; exact ix_kdict
/-- at p a dict of the module, its keys texts -/
def KDic (K : PySem.W.Frag) (w : World) (p : Addr) : Prop := (∃ es n, K.lookup p = some ⟨.type "dict", none, .dict es n, #[]⟩ ∧ PySem.W.KeysLit w.params es.toList) ∧ (p == sysModules) = false
def tKGet (K : PySem.W.Frag) (w : World) (td ty : TE) : TE := fun σ H Q => td σ H fun x H1 => ∃ p, x = .ref p ∧ KDic K w p ∧ ty σ H1 fun y H2 => ∃ (z : Str) (r : Option Value) (v : V), y = .str z ∧ PySem.W.nsIn K p z = some r ∧ RelV v (r.getD .none) ∧ Q v H2
/-- what a dict of the module is: asked for a text's place -/
theorem kget_run {A : Around} {p : Addr} {z : Str} {u : Value} {r : Option Value} {es : Array DictEntry} {n : Nat} {pins : List (Addr × Obj)} {σ : L2.St} {H : Hp} {s : Shared} {E : Value → Shared → Prop} {Q : Value → Shared → Prop} (I : L2.Inv X pins σ H s)
    (hl : X.K.lookup p = some ⟨.type "dict", none, .dict es n, #[]⟩) (hk : PySem.W.KeysLit X.w.params es.toList) (lo : (p == sysModules) = false) (e : PySem.W.nsIn X.K p z = some r) (ry : RelV (.str z) u)
    (h : ∀ s', L2.Inv X pins σ H s' → Q (r.getD .none) s') : wpAny (model X.prog X.w) A (call (.builtin "dict.get") [.ref p, u]) Q E s := by
  obtain ⟨t, rfl⟩ := (show ∃ t, u = Value.str z t from ry)
  have hm := PySem.W.mapOf_K (prog := X.prog) (w := X.w) I.kIn hl hk
  have hf := PySem.W.find_K hl e
  refine call_meetsIn PySem.F.slot_dict_get hm.typeIs PySem.F.entry_dict_get (PySem.F.args_dict_get_2 _ _) (meets_dict_get (strKind X.prog X.w) p (strKind_is X.prog X.w z t) lo) ⟨_, hm, ?_⟩
  rw [hf]
  exact h _ (I.tok _)
theorem pe_kgetK {o e : Expr} {apos cpos : Pos} {td ty : TE} (h : X.K = K) (hw : X.w = w) (ho : PE X o td) (he : PE X e ty) (m : M1 X o "get" apos e cpos) : PE X (.Call (.Attribute o "get" apos) [e] [] cpos) (tKGet K w td ty) := by
  subst h
  subst hw
  refine ⟨fun pins s σ H Q I wish => ?_⟩
  refine wpAny_Call_method m.base m.few m.line PySem.F.plainAttrs_dict PySem.F.slot_dict_get PySem.F.type_dict_get ?_
  -- the dict's place is known before its key is looked at: it stands in the written part
  refine thn (ho.run pins s σ H _ I wish) fun u s1 ⟨x, H1, I1, rx, p, ex, kd, q1⟩ => ?_
  subst ex
  obtain rfl : u = Value.ref p := rx
  obtain ⟨⟨es, n, hl, hk⟩, lo⟩ := kd
  refine ⟨(PySem.W.mapOf_K (prog := X.prog) (w := X.w) I1.kIn hl hk).typeIs, fun b e => ⟨_, I1.kIn p _ hl |> fun z => by cases e; exact z, rfl⟩, ?_⟩
  rw [m.trees]
  refine Calls.callWith_builtin rfl (Calls.evalArgs_plain (Calls.spliced_cons (thn (he.run pins s1 σ H1 _ I1 q1) fun iv s2 got => Calls.spliced_nil ?_)))
  obtain ⟨y, H2, I2, ry, z, r, v, ey, en, rv, q2⟩ := got
  subst ey
  exact kget_run I2 hl hk lo en ry fun s3 I3 => ⟨v, H2, I3, rv, q2⟩
theorem call_maxTK (h : X.K = K) (hc : X.calm = true) (hu : X.A.units + 64 < cLine) : CallR X (.builtin "max") (fun xs H Q => ∃ (a : Addr) (n : Int) (ns : List Int), xs = [.ref a] ∧ SqT K H a ((n :: ns).map V.int) ∧ Q (.int (ns.foldl max n)) H) := by
  subst h
  intro pins s σ H vs us Q I r wish
  obtain ⟨a, n, ns, rfl, hs, q⟩ := wish
  obtain ⟨its, rv, it, _⟩ := I.tuple hs
  rw [Vals.ref1 r]
  have dp : ∀ l : List Int, DpAll X.K H (l.map V.int) (l.map PyData.int) := fun l => by
    induction l with
    | nil => exact .nil
    | cons i l ih => exact .cons (.int i) ih
  obtain ⟨as, rd⟩ := Dp.readsAll I _ _ _ (dp (n :: ns)) rv
  have flat : ∀ l : List Int, PyData.depthAll (l.map PyData.int) = 0 := fun l => by
    induction l with
    | nil => rfl
    | cons i l ih => rw [List.map_cons, PyData.depthAll, ih]; rfl
  refine PySem.W.max_tuple_data (x := .int n) (xs := ns.map PyData.int) (I.ok.hd hc) it rd ⟨fun x hx y hy => ?_, fun x hx z => ?_⟩ ?_ fun i v h' tk bs hv rv' hk => ?_
  · obtain ⟨i, _, rfl⟩ := List.mem_map.mp (show x ∈ (n :: ns).map PyData.int from hx)
    obtain ⟨j, _, rfl⟩ := List.mem_map.mp (show y ∈ (n :: ns).map PyData.int from hy)
    rfl
  · obtain ⟨i, _, rfl⟩ := List.mem_map.mp (show x ∈ (n :: ns).map PyData.int from hx)
    cases z
  · have := flat (n :: ns)
    rw [show (PyData.int n :: ns.map PyData.int) = (n :: ns).map PyData.int from rfl, this]
    omega
  · rw [PySem.W.maxD_ints] at rv'
    cases rv'
    exact ⟨.int _, H, I.kept hk, ⟨_, rfl⟩, q⟩
end
/-- entries of texts and whole numbers -/
def KEs (P : Params) : List DictEntry → List (Str × Int) → Prop
  | [], [] => True
  | e :: r, (x, i) :: q => (∃ t, e.key = .str x t) ∧ e.hash = PyData.keyHash P x ∧ (∃ t, e.val = .int i t) ∧ KEs P r q
  | _, _ => False
structure KDi (K : PySem.W.Frag) (w : World) (p : Addr) (kvs : List (Str × Int)) : Prop where
  ex : ∃ es n, K.lookup p = some ⟨.type "dict", none, .dict es n, #[]⟩ ∧ KEs w.params es.toList kvs
  lo : (p == sysModules) = false
theorem kes_lit {P : Params} : ∀ {l : List DictEntry} {kvs : List (Str × Int)}, KEs P l kvs → PySem.W.KeysLit P l
  | [], [], _ => trivial
  | _ :: _, (_, _) :: _, ⟨⟨t, e⟩, h, _, r⟩ => ⟨⟨_, t, e, h⟩, kes_lit r⟩
  | [], _ :: _, h => h.elim
  | _ :: _, [], h => h.elim
def optI : Option Int → D
  | none => .non
  | some i => .int i
theorem kes_find {P : Params} (z : Str) : ∀ {l : List DictEntry} {kvs : List (Str × Int)}, KEs P l kvs → (l.find? (·.key.isStr z) = none ∧ kvs.lookup z = none) ∨ ∃ e i t, l.find? (·.key.isStr z) = some e ∧ e.val = .int i t ∧ kvs.lookup z = some i
  | [], [], _ => .inl ⟨rfl, rfl⟩
  | e :: l, (x, i) :: q, ⟨⟨t, ek⟩, _, ⟨t2, ev⟩, r⟩ => by
    by_cases hz : z = x
    · subst hz
      refine .inr ⟨e, i, t2, ?_, ev, ?_⟩
      · rw [List.find?_cons, ek]
        have : (Value.str z t).isStr z = true := by simp [Value.isStr]
        rw [this]
      · simp [List.lookup]
    · have h1 : e.key.isStr z = false := by
        rw [ek]
        simpa [Value.isStr] using fun c => hz c.symm
      have h2 : (z == x) = false := by simpa using hz
      rcases kes_find z r with ⟨a, b⟩ | ⟨e', i', t', a, b, c⟩
      · exact .inl ⟨by rw [List.find?_cons, h1]; exact a, by simp only [List.lookup, h2]; exact b⟩
      · exact .inr ⟨e', i', t', by rw [List.find?_cons, h1]; exact a, b, by simp only [List.lookup, h2]; exact c⟩
  | [], _ :: _, h => h.elim
  | _ :: _, [], h => h.elim
theorem kes_plain {P : Params} : ∀ {l : List DictEntry} {kvs : List (Str × Int)}, KEs P l kvs → l.any (·.refKey) = false
  | [], [], _ => rfl
  | e :: l, (_, _) :: _, ⟨⟨t, ek⟩, _, _, r⟩ => by
    rw [List.any_cons, kes_plain r]
    have : e.refKey = false := by
      unfold DictEntry.refKey
      rw [ek]
    rw [this]
    rfl
  | [], _ :: _, h => h.elim
  | _ :: _, [], h => h.elim
section
variable {K : PySem.W.Frag} {w : World} {p : Addr} {kvs : List (Str × Int)}
theorem KDi.dic (h : KDi K w p kvs) : KDic K w p := by
  obtain ⟨⟨es, n, hl, he⟩, lo⟩ := h
  exact ⟨⟨es, n, hl, kes_lit he⟩, lo⟩
theorem KDi.ns (h : KDi K w p kvs) (z : Str) : (PySem.W.nsIn K p z = some none ∧ kvs.lookup z = none) ∨ ∃ i t, PySem.W.nsIn K p z = some (some (.int i t)) ∧ kvs.lookup z = some i := by
  obtain ⟨⟨es, n, hl, he⟩, lo⟩ := h
  unfold PySem.W.nsIn
  rw [hl]
  dsimp only
  rcases kes_find z he with ⟨a, b⟩ | ⟨e, i, t, a, b, c⟩
  · left
    rw [a, kes_plain he]
    exact ⟨rfl, b⟩
  · right
    rw [a]
    exact ⟨i, t, by show some (some e.val) = _; rw [b], c⟩
theorem KDi.kdct (h : KDi K w p kvs) {z : Str} {i : Int} (e : kvs.lookup z = some i) : KDct K w p z (.int i) := by
  rcases h.ns z with ⟨_, b⟩ | ⟨j, t, a, b⟩
  · rw [e] at b
    cases b
  · obtain ⟨⟨es, n, hl, he⟩, lo⟩ := h
    rw [e] at b
    cases b
    exact ⟨es, n, _, hl, kes_lit he, a, ⟨t, rfl⟩⟩
end
section
variable {W : Wd} {w : World} {δ : DS} {P : D → Prop} {td ty : TE} {p : Addr} {kvs : List (Str × Int)}
theorem rd_kix {z : Str} {i : Int} (h : KDi W.K w p kvs) (e : kvs.lookup z = some i) (hP : P (.int i)) : RD W (rIxD W.K w) (.obj p) (.str z) P := fun M H v u wf r1 r2 Q q => by
  cases r1
  cases r2
  exact ⟨p, z, _, rfl, rfl, h.kdct e, q _ _ H wf.g (Keep.refl H) (.int i) hP⟩
theorem ev_kget (h : KDi W.K w p kvs) (hd : EvD W td δ fun x => x = .obj p ∧ EvD W ty δ fun y => ∃ z, y = .str z ∧ P (optI (kvs.lookup z))) : EvD W (tKGet W.K w td ty) δ P := fun M σ H pr Q q =>
  hd M σ H pr _ fun v d H1 g1 k1 r1 h1 => by
    obtain ⟨rfl, h2⟩ := h1
    cases r1
    refine ⟨p, rfl, h.dic, h2 M σ H1 (pr.next g1 k1) _ fun v2 d2 H2 g2 k2 r2 h3 => ?_⟩
    obtain ⟨z, rfl, hP⟩ := h3
    cases r2
    rcases h.ns z with ⟨a, b⟩ | ⟨i, t, a, b⟩
    · rw [b] at hP
      exact ⟨z, none, .non, rfl, a, rfl, q _ _ H2 g2 (k1.trans k2) .non hP⟩
    · rw [b] at hP
      exact ⟨z, _, .int i, rfl, a, ⟨t, rfl⟩, q _ _ H2 g2 (k1.trans k2) (.int i) hP⟩
def dicGet : List Key → List D → Key → Option D
  | k :: ks, d :: ds, x => if k = x then some d else dicGet ks ds x
  | _, _, _ => none
theorem dic_val {M : Addr → Prop} {H : Hp} {x : Key} : ∀ {kvs : List (Key × V)} {ds : List D}, Reps W M H (kvs.map (·.2)) ds → (valV kvs x = none ∧ dicGet (kvs.map (·.1)) ds x = none) ∨ ∃ v d, valV kvs x = some v ∧ dicGet (kvs.map (·.1)) ds x = some d ∧ Rep W M H v d
  | [], [], _ => .inl ⟨rfl, rfl⟩
  | (k, v) :: kvs, _, r => by
    cases r with
    | cons r1 r2 =>
      rename_i d ds
      by_cases e : k = x
      · exact .inr ⟨v, d, valV_pos e, by simp only [List.map_cons, dicGet, if_pos e], r1⟩
      · rcases dic_val (x := x) r2 with ⟨a, b⟩ | ⟨v', d', a, b, c⟩
        · exact .inl ⟨by rw [valV_neg e]; exact a, by simp only [List.map_cons, dicGet, if_neg e]; exact b⟩
        · exact .inr ⟨v', d', by rw [valV_neg e]; exact a, by simp only [List.map_cons, dicGet, if_neg e]; exact b, c⟩
def keyD : Key → D
  | .inl i => .int i
  | .inr x => .str x
theorem keyD_rep {M : Addr → Prop} {H : Hp} {v : V} {k : Key} (r : Rep W M H v (keyD k)) : v = kV k := by
  cases k <;> (cases r; rfl)
theorem ev_dget {td ty : TE} (h : EvD W td δ fun x => ∃ ks ds, x = .dic ks ds ∧ EvD W ty δ fun y => ∃ k d, y = keyD k ∧ dicGet ks ds k = some d ∧ P d) : EvD W (tDGet td ty) δ P := fun M σ H pr Q q =>
  h M σ H pr _ fun v x H1 g1 k1 r1 h1 => by
    obtain ⟨ks, ds, rfl, h2⟩ := h1
    refine h2 M σ H1 (pr.next g1 k1) _ fun u y H2 g2 k2 r2 h3 => ?_
    obtain ⟨k, d, rfl, e, hP⟩ := h3
    have r1' := r1.keep (pr.wf.next g1 k1) k2
    have ek := keyD_rep r2
    subst ek
    cases r1' with
    | dic n ha em hr =>
      subst em
      rcases dic_val (x := k) hr with ⟨_, b⟩ | ⟨v', d', a, b, c⟩
      · rw [e] at b
        cases b
      · rw [e] at b
        cases b
        exact ⟨_, v', rfl, by rw [← a]; exact DGet.k ha, q _ _ H2 g2 (k1.trans k2) c hP⟩
theorem ev_dnotin {td ty : TE} (h : EvD W ty δ fun y => ∃ k, y = keyD k ∧ EvD W td δ fun x => ∃ ks ds, x = .dic ks ds ∧ P (.bl (!(dicGet ks ds k).isSome))) : EvD W (tDNotIn ty td) δ P := fun M σ H pr Q q =>
  h M σ H pr _ fun u y H1 g1 k1 r1 h1 => by
    obtain ⟨k, rfl, h2⟩ := h1
    refine h2 M σ H1 (pr.next g1 k1) _ fun v x H2 g2 k2 r2 h3 => ?_
    obtain ⟨ks, ds, rfl, hP⟩ := h3
    have ek := keyD_rep r1
    subst ek
    cases r2 with
    | dic n ha em hr =>
      subst em
      refine ⟨_, _, rfl, DGet.k ha, ?_⟩
      rcases dic_val (x := k) hr with ⟨a, b⟩ | ⟨v', d', a, b, c⟩
      · rw [a]
        rw [b] at hP
        exact q _ _ H2 g2 (k1.trans k2) (.bl _) hP
      · rw [a]
        rw [b] at hP
        exact q _ _ H2 g2 (k1.trans k2) (.bl _) hP
/-- a display of texts and whole numbers -/
theorem ev_dispS {kvs : List (Str × Int)} (hl : kvs.length ≤ 15) (hm : mergeK [] (kvs.map fun q => ((Sum.inr q.1 : Key), V.int q.2)) = kvs.map fun q => ((Sum.inr q.1 : Key), V.int q.2))
    (h : P (.dic (kvs.map fun q => (Sum.inr q.1 : Key)) (kvs.map fun q => D.int q.2))) : EvD W (tDisp (kvs.map fun q => (tC (.str q.1), tC (.int q.2)))) δ P := fun M σ H pr Q q a ha => by
  have run : ∀ (l : List (Str × Int)) (H' : Hp) (R : List (V × V) → Hp → Prop), R (l.map fun q => (V.str q.1, V.int q.2)) H' → tPairs (l.map fun q => (tC (.str q.1), tC (.int q.2))) σ H' R := fun l => by
    induction l with
    | nil => exact fun H' R r => r
    | cons x l ih => exact fun H' R r => ih H' _ r
  refine run kvs _ _ ⟨upd_same, kvs.map fun q => ((Sum.inr q.1 : Key), V.int q.2), by rw [List.map_map]; rfl, by rw [List.length_map]; exact hl, ?_⟩
  rw [upd_upd, hm]
  obtain ⟨x1, x2, _⟩ := newU (kvs := kvs.map fun q => ((Sum.inr q.1 : Key), V.int q.2)) pr.wf ha
  have nums_ : ∀ l : List (Str × Int), Reps W M (upd H a (.dK (kvs.map fun q => ((Sum.inr q.1 : Key), V.int q.2)))) ((l.map fun q => ((Sum.inr q.1 : Key), V.int q.2)).map (·.2)) (l.map fun q => D.int q.2) := fun l => by
    induction l with
    | nil => exact .nil
    | cons x l ih => exact .cons (.int _) ih
  refine q _ _ _ x1 x2 (.dic (fun m => ?_) upd_same (by rw [List.map_map]; rfl) (nums_ kvs)) h
  obtain ⟨o, ho⟩ := pr.wf.dom a m
  rw [ha] at ho
  cases ho
/-- the greatest of a tuple of whole numbers -/
theorem rc_maxT {n : Int} {ns : List Int} (h : P (.int (ns.foldl max n))) : RCD W (fun xs H Q => ∃ (a : Addr) (n : Int) (ns : List Int), xs = [.ref a] ∧ SqT W.K H a ((n :: ns).map V.int) ∧ Q (.int (ns.foldl max n)) H) [.tup ((n :: ns).map D.int)] P := fun M H vs wf r Q q => by
  have nums_ : ∀ {l : List Int} {us : List V}, Reps W M H us (l.map D.int) → us = l.map V.int := fun {l} => by
    induction l with
    | nil => intro us r; cases r; rfl
    | cons i l ih =>
      intro us r
      cases r with
      | cons r1 r2 =>
        cases r1
        rw [ih r2]
        rfl
  cases r with
  | cons r1 r2 =>
    cases r2
    cases r1 with
    | tup hs hr =>
      have := nums_ (l := n :: ns) hr
      subst this
      exact ⟨_, n, ns, rfl, hs, q _ _ H wf.g (Keep.refl H) (.int _) h⟩
end
end PD
namespace PD
open PySem PySem.Spec PyProof.Rows L2
open PDX PDI PDT
def kindLen : List (Str × Int) := [("plus", 3), ("times", 3), ("turned", 2), ("beside", 3), ("above", 3), ("piece", 6), ("star", 2)]
abbrev Sh := Int × Int
def shD (p : Sh) : D := .tup [.int p.1, .int p.2]
def optSh : Option Sh → D
  | none => .non
  | some p => shD p
def twoD (k : Str) (one other : Sh) : Option Sh :=
  if k = "plus" then (if one = other then some one else none)
  else if k = "times" then (if one.2 = other.1 then some (one.1, other.2) else none)
  else if k = "beside" then (if one.1 = other.1 then some (one.1, one.2 + other.2) else none)
  else if one.2 = other.2 then some (one.1 + other.1, one.2) else none
def pieceD (i j r c : Int) (one : Sh) : Option Sh :=
  if min i j < 0 ∨ min r c < 1 then none else if one.1 < i + r ∨ one.2 < j + c then none else some (r, c)
def fitD (k : Str) (l : List Int) (one other : Sh) : Option Sh :=
  if k = "turned" then some (one.2, one.1)
  else if k = "star" then (if one.1 = one.2 then some one else none)
  else if k = "piece" then (match l with
    | [_, i, j, r, c] => pieceD i j r c one
    | _ => none)
  else twoD k one other
def small12 : Option Sh → Option Sh
  | none => none
  | some p => if 12 < max p.1 p.2 then none else some p
def intsOf : List D → Option (List Int)
  | [] => some []
  | x :: r => if x.isInt then (intsOf r).map (x.toI :: ·) else none
theorem intsOf_map (l : List Int) : intsOf (l.map D.int) = some l := by
  induction l with
  | nil => rfl
  | cons i l ih => simp only [List.map_cons, intsOf, D.isInt, if_true, ih, Option.map_some, D.toI]
theorem intsOf_some : ∀ {r : List D} {l : List Int}, intsOf r = some l → r = l.map D.int
  | [], l, h => by
    simp only [intsOf, Option.some.injEq] at h
    rw [← h]
    rfl
  | x :: r, l, h => by
    unfold intsOf at h
    split at h
    · rename_i hx
      obtain ⟨i, rfl⟩ := isInt_of hx
      cases e : intsOf r with
      | none => rw [e] at h; cases h
      | some q =>
        rw [e] at h
        cases h
        rw [intsOf_some e]
        rfl
    · cases h
theorem intsOf_all : ∀ (r : List D), r.all (·.isInt) = (intsOf r).isSome
  | [] => rfl
  | x :: r => by
    rw [List.all_cons, intsOf_all r]
    show _ = (if x.isInt then (intsOf r).map (x.toI :: ·) else none).isSome
    cases hx : x.isInt with
    | false => rfl
    | true => cases intsOf r <;> rfl
/-- a step's word and its numbers, if it has the form of one -/
def stepOf : D → Option (Str × List Int)
  | .tup (.str k :: r) => (match kindLen.lookup k, intsOf r with
    | some n, some l => if (l.length : Int) + 1 = n then some (k, l) else none
    | _, _ => none)
  | _ => none
def stD (k : Str) (l : List Int) : D := .tup (.str k :: l.map D.int)
theorem stepOf_some {x : D} {k : Str} {l : List Int} (h : stepOf x = some (k, l)) : x = stD k l ∧ kindLen.lookup k = some ((l.length : Int) + 1) := by
  unfold stepOf at h
  split at h
  · rename_i k' r
    split at h
    · rename_i n q e1 e2
      split at h
      · rename_i e3
        cases h
        exact ⟨by rw [intsOf_some e2]; rfl, by rw [e1, e3]⟩
      · cases h
    · cases h
  · cases h
theorem stepOf_stD {k : Str} {l : List Int} (h : kindLen.lookup k = some ((l.length : Int) + 1)) : stepOf (stD k l) = some (k, l) := by
  unfold stD stepOf
  simp only [h, intsOf_map, if_true]
def srcs (k : Str) (l : List Int) : List Int := if kindLen.lookup k = some 3 then l.take 2 else l.take 1
def okSrc (n : Int) (i : Int) : Bool := decide (0 ≤ i) && decide (i < n)
def shAt (shs : List Sh) (i : Int) : Sh := shs.getD i.toNat (0, 0)
def madeD (shs : List Sh) (x : D) : Option Sh := match stepOf x with
  | none => none
  | some (k, l) => if (srcs k l).all (okSrc shs.length) then small12 (fitD k l (shAt shs (l.getD 0 0)) (shAt shs (l.getD 1 0))) else none
/-- the kinds -/
theorem lookup_mem {n : Int} {k : Str} : ∀ {l : List (Str × Int)}, l.lookup k = some n → (k, n) ∈ l
  | [], h => by cases h
  | (x, i) :: l, h => by
    by_cases e : k = x
    · subst e
      have : ((k, i) :: l).lookup k = some i := by simp [List.lookup]
      rw [this] at h
      cases h
      exact List.mem_cons_self
    · have hx : (k == x) = false := by simpa using e
      simp only [List.lookup, hx] at h
      exact List.mem_cons_of_mem _ (lookup_mem h)
theorem kind_cases {k : Str} {n : Int} (h : kindLen.lookup k = some n) : (k = "plus" ∧ n = 3) ∨ (k = "times" ∧ n = 3) ∨ (k = "turned" ∧ n = 2) ∨ (k = "beside" ∧ n = 3) ∨ (k = "above" ∧ n = 3) ∨ (k = "piece" ∧ n = 6) ∨ (k = "star" ∧ n = 2) := by
  have := lookup_mem h
  simp only [kindLen, List.mem_cons, Prod.mk.injEq, List.not_mem_nil, or_false] at this
  exact this
section
variable {W : Wd} {P : D → Prop}
theorem kind_fine {k : Str} {n : Int} (h : kindLen.lookup k = some n) : (D.str k).fine = true := by
  rcases kind_cases h with ⟨rfl, _⟩ | ⟨rfl, _⟩ | ⟨rfl, _⟩ | ⟨rfl, _⟩ | ⟨rfl, _⟩ | ⟨rfl, _⟩ | ⟨rfl, _⟩ <;> decide +kernel
theorem eqvTx (x y : Str) : D.eqv (.str x) (.str y) = decide (x = y) := by
  show PyData.eqv (D.py (.str x)) (D.py (.str y)) = _
  simp only [D.py, PyData.eqv]
  first | rfl | (simp [BEq.beq, decide_eq_decide])
theorem rd_eqS {x y : Str} (hx : (D.str x).fine = true) (hy : (D.str y).fine = true) (h : P (.bl (decide (x = y)))) : RD W (rEqD W.K) (.str x) (.str y) P := rd_eqD hx hy (by rw [eqvTx]; exact h)
theorem rd_neS {x y : Str} (hx : (D.str x).fine = true) (hy : (D.str y).fine = true) (h : P (.bl (!decide (x = y)))) : RD W (rNeD W.K) (.str x) (.str y) P := rd_neD hx hy (by rw [eqvTx]; exact h)
theorem fineSh (p : Sh) : (shD p).fine = true := by
  simp [shD, D.fine, D.plain, D.plains, D.py, D.pys, SeqAt.shaped, PyData.canLay0, PyData.canLayAll0, PyData.depth, PyData.depthAll]
theorem eqvSh (p q : Sh) : D.eqv (shD p) (shD q) = decide (p = q) := by
  obtain ⟨a, b⟩ := p
  obtain ⟨c, d⟩ := q
  show PyData.eqv (D.py (shD (a, b))) (D.py (shD (c, d))) = _
  simp only [shD, D.py, D.pys, PyData.eqv, PyData.eqvAll]
  by_cases h : a = c <;> by_cases h2 : b = d <;> simp [h, h2]
theorem rd_eqSh {a b c d : Int} (h : P (.bl (decide ((a, b) = ((c, d) : Sh))))) : RD W (rEqD W.K) (.tup [.int a, .int b]) (.tup [.int c, .int d]) P := rd_eqD (fineSh (a, b)) (fineSh (c, d)) (by
  have := eqvSh (a, b) (c, d)
  unfold shD at this
  rw [this]
  exact h)
theorem rd_neIN {i : Int} (h : P (.bl true)) : RD W (rNeD W.K) (.int i) .non P := rd_neD (fineI i) (by decide +kernel) (by
  have : D.eqv (.int i) .non = false := by
    show PyData.eqv (D.py (.int i)) (D.py .non) = _
    simp only [D.py, PyData.eqv]
  rw [this]
  exact h)
theorem rc_max2 {i j : Int} (h : P (.int (max i j))) : RCD W (fun xs H Q => ∃ i j, xs = [.int i, .int j] ∧ Q (.int (if j > i then j else i)) H) [.int i, .int j] P := fun M H vs w r Q q => by
  cases r with
  | cons r1 r2 =>
    cases r2 with
    | cons r2 r3 =>
      cases r3
      cases r1
      cases r2
      have e : (if j > i then j else i) = max i j := by omega
      exact ⟨i, j, rfl, q _ _ H w.g (Keep.refl H) (.int _) (by rw [e]; exact h)⟩
theorem rc_min2 {i j : Int} (h : P (.int (min i j))) : RCD W (fun xs H Q => ∃ i j, xs = [.int i, .int j] ∧ Q (.int (if j < i then j else i)) H) [.int i, .int j] P := fun M H vs w r Q q => by
  cases r with
  | cons r1 r2 =>
    cases r2 with
    | cons r2 r3 =>
      cases r3
      cases r1
      cases r2
      have e : (if j < i then j else i) = min i j := by omega
      exact ⟨i, j, rfl, q _ _ H w.g (Keep.refl H) (.int _) (by rw [e]; exact h)⟩
end
theorem cutD_mid (xs : List D) (a b : Nat) : cutD xs (some (a : Int)) (some (b : Int)) = (xs.drop a).take (b - a) := by
  unfold cutD
  rw [HT.sIx_nat, HT.sIx_nat]
  by_cases h : a ≤ xs.length
  · rw [Nat.min_eq_left h]
    by_cases h2 : b ≤ xs.length
    · rw [Nat.min_eq_left h2]
    · rw [Nat.min_eq_right (by omega), List.take_of_length_le (by rw [List.length_drop]; omega), List.take_of_length_le (by rw [List.length_drop]; omega)]
  · rw [show min a xs.length = xs.length from by omega, List.drop_of_length_le (Nat.le_refl _), List.drop_of_length_le (by omega), List.take_nil, List.take_nil]
theorem cut1 (x : D) (xs : List D) : cutD (x :: xs) (some 1) none = xs := cutD_hi (x :: xs) 1
theorem cut2 (x y : D) (xs : List D) : cutD (x :: y :: xs) (some 2) none = xs := cutD_hi (x :: y :: xs) 2
theorem cut13 (x : D) (xs : List D) : cutD (x :: xs) (some 1) (some 3) = xs.take 2 := cutD_mid (x :: xs) 1 3
theorem cut12 (x : D) (xs : List D) : cutD (x :: xs) (some 1) (some 2) = xs.take 1 := cutD_mid (x :: xs) 1 2
section
variable {W : Wd} {δ : DS}
theorem gd_tup4 {g1 g2 g3 g4 : TG} {x y z u : D} {j1 j2 j3 j4 : List Nat} {Nx : DS → Prop} (h : GD W g1 x δ j1 fun δ1 => GD W g2 y δ1 j2 fun δ2 => GD W g3 z δ2 j3 fun δ3 => GD W g4 u δ3 j4 Nx) :
    GD W (gTup W.K 4 (gCons g1 (gCons g2 (gCons g3 (gCons g4 gNil))))) (.tup [x, y, z, u]) δ (j1 ++ j2 ++ j3 ++ j4) Nx := fun M σ H v p r Q q => by
  cases r with
  | @tup a vs ds hs hr =>
    obtain _ | ⟨r1, _ | ⟨r2, _ | ⟨r3, _ | ⟨r4, _ | _⟩⟩⟩⟩ := hr
    refine ⟨a, _, rfl, hs, rfl, _, _, rfl, h M σ H _ p r1 _ fun σ1 δ1 p1 h1 w1 => ⟨_, _, rfl, h1 M σ1 H _ p1 r2 _ fun σ2 δ2 p2 h2 w2 => ⟨_, _, rfl, h2 M σ2 H _ p2 r3 _ fun σ3 δ3 p3 h3 w3 => ⟨_, _, rfl, h3 M σ3 H _ p3 r4 _ fun σ4 δ4 p4 h4 w4 => ⟨rfl, q σ4 δ4 p4 h4 fun vs hv => ?_⟩⟩⟩⟩⟩
    have m : ∀ j, (j ∈ j1 ∨ j ∈ j2 ∨ j ∈ j3 ∨ j ∈ j4) → j ∈ vs := fun j hj => hv j (by
      simp only [List.mem_append]
      rcases hj with h | h | h | h
      · exact .inl (.inl (.inl h))
      · exact .inl (.inl (.inr h))
      · exact .inl (.inr h)
      · exact .inr h)
    rw [w4 vs fun j hj => m j (.inr (.inr (.inr hj))), w3 vs fun j hj => m j (.inr (.inr (.inl hj))), w2 vs fun j hj => m j (.inr (.inl hj)), w1 vs fun j hj => m j (.inl hj)]
end
def D.isStr : D → Bool
  | .str _ => true
  | _ => false
def D.isIns : D → Bool
  | .ins _ _ _ => true
  | _ => false
/-- what the class at C says of objects of the built-in types -/
structure IsiC (K : PySem.W.Frag) (C : Addr) : Prop where
  kI : PySem.W.kitOne K (.type "int") (.ref C) = some false
  kB : PySem.W.kitOne K (.type "bool") (.ref C) = some false
  kS : PySem.W.kitOne K (.type "str") (.ref C) = some false
  kT : PySem.W.kitOne K (.type "tuple") (.ref C) = some false
  kL : PySem.W.kitOne K (.type "list") (.ref C) = some false
  kN : PySem.W.kitOne K (.type "NoneType") (.ref C) = some false
  kD : PySem.W.kitOne K (.type "dict") (.ref C) = some false
  yes : PySem.W.kitOne K (.ref C) (.ref C) = some true
def isiB (K : PySem.W.Frag) (C : Addr) : Bool := ["int", "bool", "str", "tuple", "list", "NoneType", "dict"].all (fun n => decide (PySem.W.kitOne K (.type n) (.ref C) = some false)) && decide (PySem.W.kitOne K (.ref C) (.ref C) = some true)
theorem isi_of {K : PySem.W.Frag} {C : Addr} (h : isiB K C = true) : IsiC K C := by
  unfold isiB at h
  simp only [List.all_cons, List.all_nil, Bool.and_eq_true, decide_eq_true_eq, Bool.and_true] at h
  obtain ⟨⟨h1, h2, h3, h4, h5, h6, h7⟩, h8⟩ := h
  exact ⟨h1, h2, h3, h4, h5, h6, h7, h8⟩
section
variable {W : Wd} {P : D → Prop}
theorem rc_isiSJ {x : D} (hx : Jd1 W.K x) (h : P (.bl x.isStr)) : RCD W (rIsi W.K) [x, .ty "str"] P := by
  cases x with
  | ins C ns ds => exact rc_isiO hx hx.kS h
  | _ => first | exact rc_isi rfl (b := true) (by decide +kernel) h | exact rc_isi rfl (b := false) (by decide +kernel) h | cases hx
theorem rc_isiC {C : Addr} {x : D} (c : IsiC W.K C) (hx : Jd1 W.K x) (hc : ∀ D ns ds, x = .ins D ns ds → D = C) (h : P (.bl x.isIns)) : RCD W (rIsi W.K) [x, .obj C] P := fun M H vs w r Q q => by
  cases r with
  | cons r1 r2 =>
    cases r2 with
    | cons r2 r3 =>
      cases r3
      cases r2
      rename_i v0
      have go : ∀ {t : Value} {b : Bool}, TyX W.K H v0 t → PySem.W.kitOne W.K t (.ref C) = some b → P (.bl b) → rIsi W.K [v0, V.ref C] H Q := fun {t b} ht hk hP => ⟨v0, _, _, _, b, rfl, .own C, ht, hk, q _ _ H w.g (Keep.refl H) (.bl b) hP⟩
      cases x with
      | ins D ns ds =>
        have := hc D ns ds rfl
        subst this
        exact go (tyxO hx r1) c.yes h
      | non => exact go (tyx r1 rfl) c.kN h
      | bl b => exact go (tyx r1 rfl) c.kB h
      | int i => exact go (tyx r1 rfl) c.kI h
      | str y => exact go (tyx r1 rfl) c.kS h
      | tup xs => exact go (tyx r1 rfl) c.kT h
      | lst xs => exact go (tyx r1 rfl) c.kL h
      | dct => exact go (tyx r1 rfl) c.kD h
      | dic ks ds => exact go (tyx r1 rfl) c.kD h
      | _ => cases hx
end
/-- an object is a right grid -/
def okIns (C : Addr) (x : D) : Prop := ∀ E ns ds, x = .ins E ns ds → ∃ n m xs, x = gd C n xs ∧ Grd n m xs
def okIns2 (C : Addr) (x : D) : Prop := okIns C x ∧ ∀ xs, x = .tup xs → ∀ e ∈ xs, okIns C e
theorem okIns_gd {C : Addr} {n : Int} {m : Nat} {xs : List D} (g : Grd n m xs) : okIns C (gd C n xs) := fun _ _ _ _ => ⟨n, m, xs, rfl, g⟩
theorem okIns2_tup {C : Addr} {xs : List D} (h : ∀ e ∈ xs, okIns C e) : okIns2 C (.tup xs) := ⟨fun _ _ _ z => by (cases z), fun ys z e he => by
  cases z
  exact h e he⟩
def basD : D → Int
  | .ins _ _ (.int b :: _) => b
  | _ => 0
def areG : D → Bool
  | .tup xs => decide (1 ≤ xs.length) && decide (xs.length ≤ 6) && xs.all D.isIns && xs.all (fun e => decide (basD e = basD (xs.headD .non)))
  | _ => false
def shG : D → Sh
  | .ins _ _ [_, .tup rows] => (rows.length, (rows.headD .non).len)
  | _ => (0, 0)
/-- steps done one behind another: the shapes, or the first one that can't be done -/
def runS : List Sh → List D → Nat → List Sh ⊕ Nat
  | shs, [], _ => .inl shs
  | shs, x :: r, k => match madeD shs x with
    | none => .inr k
    | some p => runS (shs ++ [p]) r (k + 1)
def wrongS (g st : D) : D :=
  if areG g then
    (match st with
      | .tup xs => if xs.length ≤ 16 then (match runS ((items g).map shG) xs 0 with
        | .inl _ => .non
        | .inr k => .int k) else .str "steps"
      | _ => .str "steps")
  else .str "grids"
end PD
namespace PD
open PySem PySem.Spec PyProof.Rows L2
open PDX PDI PDT
mutual
def D.nolst : D → Bool
  | .lst _ => false
  | .tup xs => D.nolsts xs
  | .ins _ _ xs => D.nolsts xs
  | .exc _ _ _ xs => D.nolsts xs
  | .xob _ _ xs => D.nolsts xs
  | .dic _ xs => D.nolsts xs
  | _ => true
def D.nolsts : List D → Bool
  | [] => true
  | x :: xs => x.nolst && D.nolsts xs
end
section
variable {W : Wd} {M : Addr → Prop} {H : Hp}
/-- M, and all lists that stand -/
def withL (M : Addr → Prop) (H : Hp) : Addr → Prop := fun a => M a ∨ ∃ vs, H a = some (.lst vs)
theorem not_withL {a : Addr} {o : HO} (n : ¬ M a) (h : H a = some o) (ho : ∀ vs, o ≠ .lst vs) : ¬ withL M H a := fun z => by
  rcases z with z | ⟨vs, z⟩
  · exact n z
  · rw [h] at z
    exact ho vs (Option.some.inj z)
mutual
theorem Rep.withL : ∀ {v : V} {d : D}, Rep W M H v d → d.nolst = true → Rep W (withL M H) H v d
  | _, _, .non, _ => .non
  | _, _, .bl b, _ => .bl b
  | _, _, .int i, _ => .int i
  | _, _, .str x, _ => .str x
  | _, _, .ty n, _ => .ty n
  | _, _, .tup hs r, h => .tup hs (r.withL (by simpa [D.nolst] using h))
  | _, _, .lst _ _ _, h => by simp [D.nolst] at h
  | _, _, .st e, _ => .st e
  | _, _, .obj a, _ => .obj a
  | _, _, .dct n e, _ => .dct (not_withL n e fun _ z => by cases z) e
  | _, _, .ins n e q r, h => .ins (not_withL n e fun _ z => by cases z) e q (r.withL (by simpa [D.nolst] using h))
  | _, _, .exc n e q r, h => .exc (not_withL n e fun _ z => by cases z) e q (r.withL (by simpa [D.nolst] using h))
  | _, _, .xob0 n e, _ => .xob0 (not_withL n e fun _ z => by cases z) e
  | _, _, .xob n e n2 e2 q r, h => .xob (not_withL n e fun _ z => by cases z) e (not_withL n2 e2 fun _ z => by cases z) e2 q (r.withL (by simpa [D.nolst] using h))
  | _, _, .dic n e q r, h => .dic (not_withL n e fun _ z => by cases z) e q (r.withL (by simpa [D.nolst] using h))
theorem Reps.withL : ∀ {vs : List V} {ds : List D}, Reps W M H vs ds → D.nolsts ds = true → Reps W (withL M H) H vs ds
  | _, _, .nil, _ => .nil
  | _, _, .cons r t, h => by
    simp only [D.nolsts, Bool.and_eq_true] at h
    exact .cons (r.withL h.1) (t.withL h.2)
end
end
section
variable {W : Wd} {Wx : WX} {X : XV → DS → Prop} {ω : Om} {δ : DS} {N : Om → DS → Prop} {R : D → Prop} {B C : Om → DS → Prop} {te : TE} {ta : TA}
/-- no list is known in the slots -/
def noL (δ : DS) : Prop := ∀ d, some d ∈ δ → d.nolst = true
/-- a list that was not there before is one's own -/
theorem so_have {i : Nat} {M0 M1 M : Addr → Prop} {H0 L1 H H2 : Hp} {σ : L2.St} {E : Ends} {a : Addr} {vs : List V} {ds : List D} (d0 : ∀ a, M0 a → ∃ o, H0 a = some o) (p : Pre W M δ σ H) (ow : Own W M0 M H ω) (e : In2 W M0 H0 M1 L1 M H)
    (o : OutsO W Wx M0 H0 M1 L1 N R B C X E) (g2 : StOk W H2) (k2 : Keep W H H2) (ha : H a = none) (hv : H2 a = some (.lst vs)) (r : Reps W (fun b => M b ∨ b = a) H2 vs ds) (hN : (∀ x ∈ ω, x.1 ≠ a) → N ((a, ds) :: ω) (δ.set i (some (.obj a)))) :
    E.nx (σ.set i (some (.ref a))) H2 := by
  have ns : W.s ≠ some a := fun z => by
    obtain ⟨_, _, _, _, q, _⟩ := p.wf.g a z
    rw [ha] at q
    cases q
  have off0 : H0 a = none := by
    cases h0 : H0 a with
    | none => rfl
    | some oo =>
      rw [e.e.k a oo ns h0] at ha
      cases ha
  have n0 : ¬ M0 a := fun z => by
    obtain ⟨oo, ho⟩ := d0 a z
    rw [off0] at ho
    cases ho
  have e2 : Ent W M H (fun b => M b ∨ b = a) H2 := ⟨k2, fun _ x => .inl x, fun b x y => by
    rcases x with x | x
    · exact absurd x y
    · rw [x]; exact ha⟩
  have wf' : Wf W (fun b => M b ∨ b = a) H2 := ⟨g2, fun b z => .inl (p.wf.sm b z), fun b x => by
    rcases x with x | x
    · exact (p.wf.next g2 k2).dom b x
    · rw [x]; exact ⟨_, hv⟩⟩
  have wg' : Wg W (fun b => M b ∨ b = a) H := ⟨p.wf.g, fun b z => .inl (p.wf.sm b z)⟩
  have sl : Slots W (fun b => M b ∨ b = a) H2 σ δ := ⟨p.sl.len, fun j d hd => by
    obtain ⟨v, a1, a2⟩ := p.sl.get j d hd
    exact ⟨v, a1, (a2.more e2.new).keepG wg' k2⟩⟩
  refine o.nx (fun b => M b ∨ b = a) _ ((a, ds) :: ω) _ _ ⟨wf', sl.set i (.obj a)⟩ (fun b es m => ?_) (e.trans p.wf e2) (hN fun x hx z => ?_)
  · rcases List.mem_cons.mp m with m | m
    · cases m
      exact ⟨.inr rfl, n0, ns, fun s hs z => (by
        obtain ⟨_, _, _, _, _, _, q, _⟩ := p.wf.g s hs
        rw [z, ha] at q
        cases q), vs, hv, r⟩
    · exact ow.move p.wf wf' e2 b es m
  · obtain ⟨_, _, _, _, vs', q, _⟩ := ow x.1 x.2 hx
    rw [z, ha] at q
    cases q
/-- i = e, e a new list of plain items -/
theorem so_asgN {i : Nat} (hn : noL δ) (h : EvD W te δ fun d => ∃ ds, d = .lst ds ∧ D.nrefs ds = true ∧ ∀ p, (∀ x ∈ ω, x.1 ≠ p) → N ((p, ds) :: ω) (δ.set i (some (.obj p)))) : SO W Wx (tAsg te (gName i)) ω δ N R B C X := fun M0 H0 M1 L1 M σ H E d0 p ow e o => by
  have wf2 : Wf W (withL M H) H := ⟨p.wf.g, fun a z => .inl (p.wf.sm a z), fun a z => by
    rcases z with z | ⟨vs, z⟩
    · exact p.wf.dom a z
    · exact ⟨_, z⟩⟩
  have p2 : Pre W (withL M H) δ σ H := ⟨wf2, p.sl.len, fun j d hd => by
    obtain ⟨v, a1, a2⟩ := p.sl.get j d hd
    exact ⟨v, a1, a2.withL (hn d (List.mem_of_getElem? hd))⟩⟩
  refine h (withL M H) σ H p2 _ fun v d H2 g2 k2 r h1 => ?_
  obtain ⟨ds, rfl, nr, hN⟩ := h1
  cases r with
  | @lst a vs _ n hv hr =>
    have ha : H a = none := by
      cases q : H a with
      | none => rfl
      | some oo =>
        have ns : W.s ≠ some a := fun z => n (.inl (p.wf.sm a z))
        have := k2 a oo ns q
        rw [hv] at this
        have := Option.some.inj this
        exact absurd (.inr ⟨vs, by rw [q, this]⟩) n
    exact so_have d0 p ow e o g2 k2 ha hv (hr.nref nr) (hN a)
/-- i = e, e a list that was not there before -/
theorem so_asgF {i : Nat} (h : EvF W te δ fun ds => ∀ p, (∀ x ∈ ω, x.1 ≠ p) → N ((p, ds) :: ω) (δ.set i (some (.obj p)))) : SO W Wx (tAsg te (gName i)) ω δ N R B C X := fun M0 H0 M1 L1 M σ H E d0 p ow e o =>
  h M σ H p _ fun a vs ds H2 g2 k2 ha nm hv r hN => so_have d0 p ow e o g2 k2 ha hv r (hN a)
/-- i = list(e) -/
theorem so_list {i : Nat} (h : EvA W ta δ fun xs => ∃ ds, (xs = [.tup ds] ∨ xs = [.lst ds]) ∧ D.nrefs ds = true ∧ ∀ p, (∀ x ∈ ω, x.1 ≠ p) → N ((p, ds) :: ω) (δ.set i (some (.obj p)))) :
    SO W Wx (tAsg (tCB (fun xs H Q => ∃ p ys, xs = [V.ref p] ∧ (SqL W.K H p ys ∨ SqT W.K H p ys) ∧ ∀ l, H l = none → Q (.ref l) (upd H l (.lst ys))) ta) (gName i)) ω δ N R B C X := fun M0 H0 M1 L1 M σ H E d0 p ow e o =>
  h M σ H p _ fun us xs H1 g1 k1 r1 h1 => by
    obtain ⟨ds, hx, nr, hN⟩ := h1
    have go : ∀ (q : Addr) (ys : List V), us = [.ref q] → (SqL W.K H1 q ys ∨ SqT W.K H1 q ys) → Reps W M H1 ys ds → ∃ p ys, us = [V.ref p] ∧ (SqL W.K H1 p ys ∨ SqT W.K H1 p ys) ∧ ∀ l, H1 l = none → E.nx (σ.set i (some (.ref l))) (upd H1 l (.lst ys)) := fun q ys eu hs hr => ⟨q, ys, eu, hs, fun l hl => by
      have hl0 : H l = none := by
        cases z : H l with
        | none => rfl
        | some oo =>
          have ns : W.s ≠ some l := fun w => by
            obtain ⟨_, _, _, _, q, _⟩ := g1 l w
            rw [hl] at q
            cases q
          rw [k1 l oo ns z] at hl
          cases hl
      have k2 : Keep W H1 (upd H1 l (.lst ys)) := Keep.new hl
      exact so_have d0 p ow e o (g1.new hl) (k1.trans k2) hl0 upd_same ((hr.keepG (p.next g1 k1).wf.wg k2).nref nr) (hN l)⟩
    rcases hx with rfl | rfl
    · cases r1 with
      | cons r1 r2 =>
        cases r2
        cases r1 with
        | tup hs hr => exact go _ _ rfl (.inr hs) hr
    · cases r1 with
      | cons r1 r2 =>
        cases r2
        cases r1 with
        | lst n hs hr => exact go _ _ rfl (.inl (.inl (.inl hs))) hr
end
theorem nrefs_sh (l : List Sh) : D.nrefs (l.map shD) = true := nrefs_of fun x hx => by
  obtain ⟨p, _, rfl⟩ := List.mem_map.mp hx
  exact nref_tup fun y hy => by
    simp only [List.mem_cons, List.not_mem_nil, or_false] at hy
    rcases hy with rfl | rfl <;> rfl
theorem nref_opt (o : Option Sh) : (optSh o).nref = true := by
  cases o with
  | none => rfl
  | some p =>
    exact nref_tup fun y hy => by
      simp only [List.mem_cons, List.not_mem_nil, or_false] at hy
      rcases hy with rfl | rfl <;> rfl
theorem areG_ins {C : Addr} {xs : List D} (hc : ∀ e ∈ xs, okIns C e) (h : xs.all D.isIns = true) {e : D} (he : e ∈ xs) : ∃ n m ys, e = gd C n ys ∧ Grd n m ys := by
  have := List.all_eq_true.mp h e he
  cases e <;> first | exact hc _ he _ _ _ rfl | cases this
theorem areG_tup {g : D} (h : areG g = true) : ∃ xs, g = .tup xs ∧ 1 ≤ xs.length ∧ xs.length ≤ 6 ∧ xs.all D.isIns = true := by
  unfold areG at h
  split at h
  · rename_i xs
    simp only [Bool.and_eq_true, decide_eq_true_eq] at h
    exact ⟨xs, rfl, h.1.1.1, h.1.1.2, h.1.2⟩
  · cases h
theorem wrongS_no {g st : D} (h : areG g = false) : wrongS g st = .str "grids" := by
  unfold wrongS
  rw [h]
  rfl
theorem wrongS_in {gs : List D} {st : D} (h : areG (.tup gs) = true) : wrongS (.tup gs) st = (match st with
      | .tup xs => if xs.length ≤ 16 then (match runS (gs.map shG) xs 0 with
        | .inl _ => .non
        | .inr k => .int k) else .str "steps"
      | _ => .str "steps") := by
  unfold wrongS
  rw [h]
  rfl
end PD
namespace PD
open PySem PySem.Spec PyProof.Rows L2
open PDX PDI PDT
abbrev FJ := List D → (D → List D → Prop) → Prop
def spJ (K : PySem.W.Frag) (F : FJ) : Sp := fun vs H Q _ => ∃ (W : Wd) (M : Addr → Prop) (v0 v2 : V) (a : Addr) (us : List V) (d0 d2 : D) (es : List D) (P : D → List D → Prop), vs = [v0, .ref a, v2] ∧ W.K = K ∧ Wf W M H ∧ Rep W M H v0 d0 ∧ Rep W M H v2 d2 ∧ M a ∧ W.s ≠ some a ∧
  (∀ s, W.s = some s → W.b ≠ a) ∧ H a = some (.lst us) ∧ Reps W M H us es ∧ F [d0, .lst es, d2] P ∧
  ∀ v d H' us' es', StOk W H' → (∀ x o, x ≠ a → W.s ≠ some x → H x = some o → H' x = some o) → H' a = some (.lst us') → Reps W M H' us' es' → Rep W M H' v d → P d es' → Q v H'
theorem spJ_len {K : PySem.W.Frag} {F : FJ} {n : Nat} (hF : ∀ ds P, F ds P → ds.length = n) (vs : List V) (H : Hp) (Q : VK) (E : XK) (h : spJ K F vs H Q E) : vs.length = n := by
  obtain ⟨_, _, _, _, _, _, _, _, _, _, rfl, _, _, _, _, _, _, _, _, _, f, _⟩ := h
  exact hF _ _ f
/-- the body: two rows and a return, behind which the list holds what it holds -/
theorem body_ofJ {K : PySem.W.Frag} {F : FJ} {vs : List V} {H : Hp} {Q : VK} {E : XK} {N : List Str} {t1 t2 : TS} {te : TE} (h : spJ K F vs H Q E)
    (hb : ∀ W d0 es d2 a P, W.K = K → F [d0, .lst es, d2] P → SO W WF (tSeq t1 t2) [(a, es)] (startD N.length [d0, .obj a, d2]) (fun ω δ => ∃ es', (a, es') ∈ ω ∧ EvL W te ω δ fun d => d.nref = true ∧ P d es') (fun _ => False) (fun _ _ => False) (fun _ _ => False) XN) :
    tSeq t1 (tSeq t2 (tRet te)) { nx := fun _ H' => Q .non H', rt := Q } (L2.start N vs) H := by
  obtain ⟨W, M, v0, v2, a, us, d0, d2, es, P, rfl, e, w, r0, r2, ma, ns, nb, ha, re, f, q⟩ := h
  have r : Reps W M H [v0, .ref a, v2] [d0, .obj a, d2] := .cons r0 (.cons (.obj a) (.cons r2 .nil))
  have k0 : Keep W (del H a) H := fun x o _ h => by
    by_cases z : x = a
    · subst z
      rw [del_same] at h
      cases h
    · rw [del_ne z] at h
      exact h
  refine hb W d0 es d2 a P e f (fun x => M x ∧ x ≠ a) (del H a) M H M _ H { nx := tRet te { nx := fun _ H' => Q .non H', rt := Q }, rt := Q } (fun x hx => ?_) ⟨w, start_slots N r⟩ (fun b ds m => ?_) ⟨⟨k0, fun x hx => hx.1, fun x hx nx => ?_⟩, EntM.refl M H⟩
    ⟨fun M' σ' ω' δ' H' p' ow' e' x => ?_, fun v d H' g k r' x => x.elim, fun _ _ _ _ _ _ _ _ x => x.elim, fun _ _ _ _ _ _ _ _ x => x.elim, fun _ _ _ _ _ _ _ _ _ _ z => z.elim⟩
  · obtain ⟨o, ho⟩ := w.dom x hx.1
    exact ⟨o, by rw [del_ne hx.2]; exact ho⟩
  · rw [List.mem_singleton] at m
    cases m
    exact ⟨ma, fun z => z.2 rfl, ns, nb, us, ha, re⟩
  · by_cases z : x = a
    · rw [z, del_same]
    · exact absurd ⟨hx, z⟩ nx
  · obtain ⟨es', hm, hE⟩ := x
    obtain ⟨hM, n0, _, _, us', ha', re'⟩ := ow' a es' hm
    obtain ⟨p2, l2⟩ := own_lend p' ow'
    refine hE _ σ' H' p2 l2 _ fun v d H2 g2 k2 r2' h2 => ?_
    have mm : ∀ y, M y → M' y := fun y hy => by
      by_cases z : y = a
      · rw [z]
        exact hM
      · exact e'.e.m y ⟨hy, z⟩
    exact q v d H2 us' es' g2 (fun y o ny nsy ho => k2 y o nsy (e'.e.k y o nsy (by rw [del_ne ny]; exact ho))) (k2 a _ ns ha') ((re'.keep p'.wf k2).anti mm) (r2'.nref h2.1) h2.2
/-- such a call over a list of one's own, as a row: i = f(e, xs, e) -/
theorem so_callJ {W : Wd} {Wx : WX} {X : XV → DS → Prop} {ω : Om} {δ : DS} {N : Om → DS → Prop} {R : D → Prop} {B C : Om → DS → Prop} {F : FJ} {E' : XK} {t0 t2 : TE} {i j : Nat} {a : Addr} {es : List D} (hj : δ[j]? = some (some (.obj a))) (hm : Has ω a es)
    (h : EvD W t0 δ fun d0 => EvD W t2 δ fun d2 => F [d0, .lst es, d2] fun d es' => N (putO ω a fun _ => es') (δ.set i (some d))) : SO W Wx (tAsg (tCall (spJ W.K F) [] E' (tCons t0 (tCons (tVar j) (tCons t2 tNil)))) (gName i)) ω δ N R B C X := fun M0 H0 M1 L1 M σ H E d0 p ow e o =>
  h M σ H p _ fun v0 x0 H1 g1 k1 r0 h1 => by
    obtain ⟨va, sa, ra⟩ := p.sl.get j _ hj
    cases ra
    refine ⟨_, sa, ?_⟩
    have p1 := p.next g1 k1
    refine h1 M σ H1 p1 _ fun v2 x2 H2 g2 k2 r2 hF => ?_
    have p2 := p1.next g2 k2
    have e2 := (e.next p.wf k1).next p1.wf k2
    have ow2 := (ow.keep p.wf k1).keep p1.wf k2
    obtain ⟨hM, n0, ns, nb, us, ha, re⟩ := ow2 a es hm.1
    refine ⟨W, M, v0, v2, a, us, x0, x2, es, _, rfl, rfl, p2.wf, r0.keep p1.wf k2, r2, hM, ns, nb, ha, re, hF, fun v d H' us' es' g' k' ha' re' rv hN => ?_⟩
    have kM : KeepM W M H2 H' := fun x oo nsx nl hx => k' x oo (fun z => by
      rw [z, ha] at hx
      exact nl (by rw [z]; exact hM) us (Option.some.inj hx).symm) nsx hx
    have wf' : Wf W M H' := ⟨g', p2.wf.sm, fun x hx => by
      by_cases z : x = a
      · exact ⟨_, by rw [z]; exact ha'⟩
      · by_cases zs : W.s = some x
        · obtain ⟨_, _, _, _, q, _⟩ := g' x zs
          exact ⟨_, q⟩
        · obtain ⟨oo, ho⟩ := p2.wf.dom x hx
          exact ⟨oo, k' x oo z zs ho⟩⟩
    have sl : Slots W M H' σ δ := ⟨p2.sl.len, fun jj dd hd => by
      obtain ⟨v, a1, a2⟩ := p2.sl.get jj dd hd
      exact ⟨v, a1, a2.keepM p2.wf.wg kM⟩⟩
    have off : H0 a = none := by
      cases z : H0 a with
      | none => rfl
      | some oo => exact absurd (e2.e.new a hM n0) (by rw [z]; intro y; cases y)
    refine o.nx M _ (putO ω a fun _ => es') _ _ ⟨wf', sl.set i rv⟩ (fun b ds m => ?_) ⟨⟨fun x oo nsx hx => ?_, e2.e.m, e2.e.new⟩, ?_⟩ hN
    · obtain ⟨ds0, m0, ed⟩ := mem_putO m
      by_cases z : b = a
      · rw [if_pos z] at ed
        subst z ed
        exact ⟨hM, n0, ns, nb, us', ha', re'⟩
      · rw [if_neg z] at ed
        subst ed
        obtain ⟨b1, b2, b3, b4, ws, b5, b6⟩ := ow2 b ds m0
        exact ⟨b1, b2, b3, b4, ws, k' b _ z b3 b5, b6.keepM p2.wf.wg kM⟩
    · exact k' x oo (ne_of_none hx off) nsx (e2.e.k x oo nsx hx)
    · have step : EntM W M H2 M H' := ⟨kM, fun _ x => x, fun x y z => absurd y z⟩
      exact e2.l.trans step p2.wf
/-- what a grid says of what it is compared with -/
def eqG (n : Int) (xs : List D) : D → Bool
  | .ins _ _ [b, x] => D.eqv (.int n) b && D.eqv (.tup xs) x
  | _ => false
mutual
theorem Rep.swapW {W W' : Wd} {M : Addr → Prop} {H : Hp} (hK : W'.K = W.K) : ∀ {v : V} {d : D}, Rep W M H v d → d.plain = true → Rep W' M H v d
  | _, _, .non, _ => .non
  | _, _, .bl b, _ => .bl b
  | _, _, .int i, _ => .int i
  | _, _, .str x, _ => .str x
  | _, _, .ty n, h => by simp [D.plain] at h
  | _, _, .tup hs r, h => .tup (by rw [hK]; exact hs) (r.swapW hK (by simpa [D.plain] using h))
  | _, _, .lst n hs r, h => .lst n hs (r.swapW hK (by simpa [D.plain] using h))
  | _, _, .st _, h => by simp [D.plain] at h
  | _, _, .obj _, h => by simp [D.plain] at h
  | _, _, .dct _ _, h => by simp [D.plain] at h
  | _, _, .ins _ _ _ _, h => by simp [D.plain] at h
  | _, _, .exc _ _ _ _, h => by simp [D.plain] at h
  | _, _, .xob0 _ _, h => by simp [D.plain] at h
  | _, _, .xob _ _ _ _ _ _, h => by simp [D.plain] at h
  | _, _, .dic _ _ _ _, h => by simp [D.plain] at h
theorem Reps.swapW {W W' : Wd} {M : Addr → Prop} {H : Hp} (hK : W'.K = W.K) : ∀ {vs : List V} {ds : List D}, Reps W M H vs ds → D.plains ds = true → Reps W' M H vs ds
  | _, _, .nil, _ => .nil
  | _, _, .cons r t, h => by
    simp only [D.plains, Bool.and_eq_true] at h
    exact .cons (r.swapW hK h.1) (t.swapW hK h.2)
end
/-- no state, no list that changes -/
def stillW (K : PySem.W.Frag) : Wd := ⟨K, none, 0⟩
theorem stillW_g (K : PySem.W.Frag) (M : Addr → Prop) (H : Hp) : Wg (stillW K) M H := ⟨fun s e => (by cases e), fun a e => (by cases e)⟩
/-- at a and at b grids that are alike -/
def RG (K : PySem.W.Frag) (C : Addr) (a b : Addr) (H : Hp) : Prop := ∃ (n : Int) (m : Nat) (xs : List D) (n' : Int) (m' : Nat) (xs' : List D), Grd n m xs ∧ Grd n' m' xs' ∧ Rep (stillW K) (fun _ => False) H (.ref a) (gd C n xs) ∧ Rep (stillW K) (fun _ => False) H (.ref b) (gd C n' xs') ∧ eqG n xs (gd C n' xs') = true
theorem keep_ext {K : PySem.W.Frag} {H H' : Hp} (e : Ext H H') : Keep (stillW K) H H' := fun a o _ h => e a o h
theorem RG.mon {K : PySem.W.Frag} {C : Addr} : ∀ a b H H', Ext H H' → RG K C a b H → RG K C a b H' := fun a b H H' e ⟨n, m, xs, n', m', xs', g, g', r, r', q⟩ => ⟨n, m, xs, n', m', xs', g, g', r.keepG (stillW_g K _ H) (keep_ext e), r'.keepG (stillW_g K _ H) (keep_ext e), q⟩
theorem op_eqGK {X : Cx} {K : PySem.W.Frag} {CX : CXT} {k : Nat} {C f : Addr} {fd : FuncData} {ps : List Str} {Fg : FD} {E : XK} (h : X.K = K) (T : EqT K C f) (F : FnOk X.prog X.w K X.mg X.base CX k f fd ps (spD K Fg)) (hr : Room (k + 1) X.A) (hb : Binds K fd ps []) (hx : Passes CX X E)
    (hF : ∀ n m xs n' m' xs', Grd n m xs → Grd n' m' xs' → eqG n xs (gd C n' xs') = true → Fg [gd C n xs, gd C n' xs'] fun d => d = .bl true) : OpR X (compareOp .Eq) (rEqG (DTup K (DIns C (RG K C)))) := by
  subst h
  have F2 : FnOk X.prog X.w X.K X.mg X.base CX k f fd ps (spEq (RG X.K C)) := F.imp fun vs H Q E' q => by
    obtain ⟨a, b, rfl, ⟨n, m, xs, n', m', xs', g, g', r, r', e⟩, hq⟩ := q
    refine ⟨stillW X.K, fun _ => False, [gd C n xs, gd C n' xs'], fun d => d = .bl true, rfl, ⟨fun s z => (by cases z), fun a z => (by cases z), fun a z => z.elim⟩, .cons r (.cons r' .nil), hF n m xs n' m' xs' g g' e, fun v d H' _ kk rv hd => ?_⟩
    subst hd
    cases rv
    exact hq H' fun a o ho => kk a o (by intro z; cases z) ho
  exact op_eqG (rcG_tup (mon_ins RG.mon) (eqG_ins F2 T.e T.fn hb hx)) hr
theorem rd_eqGs {W : Wd} {P : D → Prop} {C : Addr} {xs ys : List D} (hl : xs.length = ys.length) (h : ∀ (i : Nat) x y, xs[i]? = some x → ys[i]? = some y → ∃ n m zs n' m' zs', x = gd C n zs ∧ y = gd C n' zs' ∧ Grd n m zs ∧ Grd n' m' zs' ∧ eqG n zs (gd C n' zs') = true) (hP : P (.bl true)) :
    RD W (rEqG (DTup W.K (DIns C (RG W.K C)))) (.tup xs) (.tup ys) P := fun M H v u wf r1 r2 Q q => by
  have still : ∀ {v : V} {n : Int} {m : Nat} {zs : List D}, Grd n m zs → Rep W M H v (gd C n zs) → Rep (stillW W.K) (fun _ => False) H v (gd C n zs) := fun {v n m zs} g r => by
    have r := r.anti (M' := fun _ => False) fun a z => z.elim
    have hf := g.fine
    unfold D.fine at hf
    simp only [Bool.and_eq_true] at hf
    cases r with
    | ins n0 ha e hr => exact .ins n0 ha e (hr.swapW (W := W) (W' := stillW W.K) rfl (by simp only [D.plains, D.plain, Bool.and_eq_true]; refine ⟨trivial, ?_, trivial⟩; simpa [D.plain] using hf.1))
  cases r1 with
  | @tup a vs _ hs hr =>
    cases r2 with
    | @tup b us _ hs2 hr2 =>
      refine ⟨⟨a, b, vs, us, rfl, rfl, hs, hs2, by rw [hr.length, hr2.length, hl], fun i x y h1 h2 => ?_⟩, fun H' e => q _ _ H' (fun s hs => ?_) (fun a o _ ho => e a o ho) (.bl true) hP⟩
      · obtain ⟨d1, e1, rr1⟩ := hr.got h1
        obtain ⟨d2, e2, rr2⟩ := hr2.got h2
        obtain ⟨n, m, zs, n', m', zs', rfl, rfl, g, g', eq⟩ := h i d1 d2 e1 e2
        have k1 := still g rr1
        have k2 := still g' rr2
        cases rr1 with
        | @ins a1 _ dx1 fs1 _ _ n1 ha1 f1 q1 =>
          cases rr2 with
          | @ins a2 _ dx2 fs2 _ _ n2 ha2 f2 q2 => exact ⟨a1, a2, dx1, dx2, fs1, fs2, rfl, rfl, ha1, ha2, n, m, zs, n', m', zs', g, g', k1, k2, eq⟩
      · obtain ⟨ns, i, c, m, a1, a2, a3, a4⟩ := wf.g s hs
        exact ⟨ns, i, c, m, e _ _ a1, a2, e _ _ a3, a4⟩
theorem runS_st : ∀ {xs : List D} {shs r : List Sh} {k : Nat}, runS shs xs k = .inl r → ∀ x ∈ xs, ∃ w l, x = stD w l ∧ kindLen.lookup w = some ((l.length : Int) + 1)
  | [], _, _, _, _, x, hx => by cases hx
  | y :: xs, shs, r, k, h, x, hx => by
    unfold runS at h
    cases e : madeD shs y with
    | none => rw [e] at h; cases h
    | some p =>
      rw [e] at h
      rcases List.mem_cons.mp hx with rfl | hx
      · unfold madeD at e
        cases e2 : stepOf x with
        | none => rw [e2] at e; cases e
        | some q =>
          obtain ⟨w, l⟩ := q
          obtain ⟨h1, h2⟩ := stepOf_some e2
          exact ⟨w, l, h1, h2⟩
      · exact runS_st h x hx
theorem ints_plain (l : List Int) : D.plains (l.map D.int) = true ∧ PyData.canLayAll0 (D.pys (l.map D.int)) = true ∧ PyData.depthAll (D.pys (l.map D.int)) = 0 := by
  induction l with
  | nil => simp [D.plains, D.pys, PyData.canLayAll0, PyData.depthAll]
  | cons i l ih => simp [D.plains, D.plain, D.pys, D.py, PyData.canLayAll0, PyData.canLay0, PyData.depthAll, PyData.depth, ih]
theorem steps_fine {xs : List D} (h : ∀ x ∈ xs, ∃ w l, x = stD w l ∧ kindLen.lookup w = some ((l.length : Int) + 1)) : (D.tup xs).fine = true := by
  have key : D.plains xs = true ∧ PyData.canLayAll0 (D.pys xs) = true ∧ PyData.depthAll (D.pys xs) ≤ 1 := by
    induction xs with
    | nil => simp [D.plains, D.pys, PyData.canLayAll0, PyData.depthAll]
    | cons y ys ih =>
      obtain ⟨w, l, rfl, hk⟩ := h y List.mem_cons_self
      have ih := ih fun x hx => h x (List.mem_cons_of_mem _ hx)
      have ip := ints_plain l
      have kf := kind_fine hk
      simp [D.fine, D.plain, D.py, SeqAt.shaped, PyData.canLay0, PyData.depth] at kf
      simp [stD, D.plains, D.plain, D.pys, D.py, PyData.canLayAll0, PyData.canLay0, PyData.depthAll, PyData.depth, ih, ip, kf]
  have := key.2.2
  simp [D.fine, D.plain, D.py, SeqAt.shaped, PyData.canLay0, PyData.depth, key.1, key.2.1]
  omega
end PD
namespace PD
open PySem PySem.SeqAt
open AutoSeq1 (wpAny_loadPart')
open MeetsSeq MeetsSeq2 MeetsSeq3 SeqRoads2
section
open PyProof.Rows L2
open PDX PDI PDT
theorem sl_listK {X : Cx} {K : PySem.W.Frag} (h : X.K = K) : SlR X (rSlL K) := by subst h; exact sl_list
end
/-- a script's object -/
abbrev scD (C : Addr) (g st : D) (r : List Sh) : D := .ins C ["grids", "steps", "shapes"] [g, st, .tup (r.map shD)]
section
open PyProof.Rows L2
open PDX PDI PDT
theorem law_bodyO {K : PySem.W.Frag} {vs : List V} {H : Hp} {Q : VK} {E E' : XK} {x y : Str} {N : List Str} {t : TS} {tn : Int} (h : spLaw K vs H Q E) (h0 : 0 ≤ tn) (h1 : tn < 1000)
    (hr : ∀ W, W.K = K → SO W WF t [] (none :: some .st :: List.replicate N.length none) (fun _ _ => False) (fun d => d = .bl true) (fun _ _ => False) (fun _ _ => False) XN) :
    tSeq (tAsg (tCall (spState K) [] E' (tCons (tVar 0) (tCons (tC (.int tn)) tNil))) (gName 1)) t { nx := fun _ H' => Q .non H', rt := Q } (L2.start (x :: y :: N) vs) H := by
  obtain ⟨a, ns, rfl, hS, hl, q⟩ := h
  refine ⟨.ref a, rfl, a, ns, tn, rfl, hS, hl, h0, h1, fun H' s b hk hs hb h2 h3 => ?_⟩
  let W : Wd := ⟨K, some s, b⟩
  have g : StOk W H' := fun s' e => by
    cases e
    exact ⟨ns, 0, 0, 1 + tn, h2, hb, h3, by decide, by decide, hl, by decide, by omega, by omega⟩
  have hst : L2.start (x :: y :: N) [V.ref a] = some (.ref a) :: none :: List.replicate N.length none := by
    simp [L2.start, List.replicate_succ]
  have sl : Slots W (fun p => p = s) H' ((L2.start (x :: y :: N) [V.ref a]).set 1 (some (.ref s))) (none :: some .st :: List.replicate N.length none) := by
    rw [hst]
    refine ⟨by simp, fun i d hd => ?_⟩
    match i with
    | 0 => cases hd
    | 1 =>
      cases hd
      exact ⟨.ref s, rfl, .st rfl⟩
    | i + 2 =>
      have hd' : (List.replicate N.length (none : Option D))[i]? = some (some d) := hd
      have := List.mem_of_getElem? hd'
      rw [List.mem_replicate] at this
      cases this.2
  refine hr W rfl (fun p => p = s) H' (fun p => p = s) H' (fun p => p = s) _ H' _ (fun p e => by subst e; exact ⟨_, h2⟩) ⟨⟨g, fun p e => by cases e; rfl, fun p e => (by subst e; exact ⟨_, h2⟩)⟩, sl⟩ (fun a ds m => by cases m) ⟨Ent.refl _ _, EntM.refl _ _⟩
    ⟨fun _ _ _ _ _ _ _ _ z => z.elim, fun v d H2 _ _ r e => ?_, fun _ _ _ _ _ _ _ _ z => z.elim, fun _ _ _ _ _ _ _ _ z => z.elim, fun _ _ _ _ _ _ _ _ _ _ z => z.elim⟩
  subst e
  cases r
  exact q H2
end
section
open PyProof.Rows L2
open PDX PDI PDT
theorem areG_good {C : Addr} {n : Int} {gs : List D} (l1 : 1 ≤ gs.length) (l6 : gs.length ≤ 6) (hg : ∀ e ∈ gs, ∃ xs, e = gd C n xs) : areG (.tup gs) = true := by
  show (decide (1 ≤ gs.length) && decide (gs.length ≤ 6) && gs.all D.isIns && gs.all (fun e => decide (basD e = basD (gs.headD .non)))) = true
  rw [decide_eq_true l1, decide_eq_true l6]
  obtain ⟨x, r, rfl⟩ : ∃ x r, gs = x :: r := by
    cases gs with
    | nil => simp at l1
    | cons a b => exact ⟨a, b, rfl⟩
  have a1 : (x :: r).all D.isIns = true := List.all_eq_true.mpr fun e he => by
    obtain ⟨xs, rfl⟩ := hg e he
    rfl
  have a2 : (x :: r).all (fun e => decide (basD e = basD ((x :: r).headD .non))) = true := List.all_eq_true.mpr fun e he => by
    obtain ⟨xs, rfl⟩ := hg e he
    obtain ⟨ys, ey⟩ := hg x List.mem_cons_self
    subst ey
    exact decide_eq_true rfl
  rw [a1, a2]
  rfl
theorem wrongS_good {C : Addr} {n : Int} {gs xs : List D} {r : List Sh} (l1 : 1 ≤ gs.length) (l6 : gs.length ≤ 6) (hg : ∀ e ∈ gs, ∃ xs, e = gd C n xs) (l16 : xs.length ≤ 16) (hr : runS (gs.map shG) xs 0 = .inl r) : wrongS (.tup gs) (.tup xs) = .non := by
  rw [wrongS_in (areG_good l1 l6 hg)]
  show (if xs.length ≤ 16 then _ else _) = _
  rw [if_pos l16, hr]
theorem ev_slL {W : Wd} {δ : DS} {P : D → Prop} {te : TE} {tl th : TO} (h : EvD W te δ fun x => ∃ xs, x = .lst xs ∧ EvO W tl δ fun lo => EvO W th δ fun hi => P (.lst (cutD xs lo hi))) : EvD W (tSl (rSlL W.K) te tl th) δ P := fun M σ H p Q q =>
  h M σ H p _ fun v x H1 g1 k1 r1 h1 => by
    obtain ⟨xs, rfl, h2⟩ := h1
    refine h2 M σ H1 (p.next g1 k1) _ fun lo H2 g2 k2 h3 => ?_
    refine h3 M σ H2 ((p.next g1 k1).next g2 k2) _ fun hi H3 g3 k3 hP => ?_
    have r3 := (r1.keep (p.next g1 k1).wf k2).keep ((p.next g1 k1).next g2 k2).wf k3
    have p3 := ((p.next g1 k1).next g2 k2).next g3 k3
    cases r3 with
    | @lst a vs _ n hs hr =>
      refine ⟨a, vs, rfl, .inl (.inl hs), fun l hl => ?_⟩
      have kk : Keep W H3 (upd H3 l (.lst (cutV vs lo hi))) := Keep.new hl
      have hc : Reps W M H3 (cutV vs lo hi) (cutD xs lo hi) := by
        unfold cutV cutD
        rw [hr.length]
        exact (hr.drop _).take _
      refine q _ (.lst (cutD xs lo hi)) _ (g3.new hl) (((k1.trans k2).trans k3).trans kk) (.lst (fun m => ?_) upd_same (hc.keep p3.wf kk)) hP
      obtain ⟨o, ho⟩ := p3.wf.dom l m
      rw [hl] at ho
      cases ho
end
end PD
namespace PD
open PySem PySem.Spec PyProof.Rows L2
open RZ (iZipA ItzT)
open PDX PDI
section
variable {W : Wd} {δ : DS} {P : D → Prop} {ta tb te : TE}
theorem src_zipL {M : Addr → Prop} {H1 : Hp} {a b : Addr} {vs us : List V} {ds es : List D} (w : Wf W M H1) (na : ¬ M a) (nb : ¬ M b) (hs : H1 a = some (.lst vs)) (hr : Reps W M H1 vs ds) (hs' : H1 b = some (.lst us)) (hr' : Reps W M H1 us es) : Src W M (Itz W.K a b) H1 (zipD ds es) := fun M' hm hn i H2 k g => by
  have wg : Wg W M' H1 := ⟨w.g, fun b e => hm b (w.sm b e)⟩
  have wg2 : Wg W M' H2 := ⟨g, fun b e => hm b (w.sm b e)⟩
  have hs2 : SqL W.K H2 a vs := .inl (.inl (rdL_keepM w.wg k na hs))
  have hs3 : SqL W.K H2 b us := .inl (.inl (rdL_keepM w.wg k nb hs'))
  have hr2 : Reps W M' H2 vs ds := (hr.more hn).keepM wg (k.mono hm)
  have hr3 : Reps W M' H2 us es := (hr'.more hn).keepM wg (k.mono hm)
  refine ⟨fun hl => ⟨vs, us, hs2, hs3, ?_⟩, fun d hd => ?_⟩
  · rw [hr2.length, hr3.length, hl]
    unfold zipD
    rw [List.length_zipWith]
    omega
  · obtain ⟨x, y, hx, hy, rfl⟩ := zipD_get hd
    obtain ⟨v, hv, rv⟩ := hr2.get hx
    obtain ⟨u, hu, ru⟩ := hr3.get hy
    refine ⟨⟨vs, us, v, u, hs2, hs3, hv, hu⟩, fun z H3 yy => ?_⟩
    obtain ⟨T, x1, y1, rfl, hT, rfl, f1, f2⟩ := yy
    have e1 := f1 vs hs2
    have e2 := f2 us hs3
    rw [hv] at e1
    rw [hu] at e2
    cases e1
    cases e2
    have kn : Keep W H2 (upd H2 T (.tup [v, u])) := Keep.new hT
    exact ⟨g.new hT, kn, .tup (SqT.of upd_same) (.cons (rv.keepG wg2 kn) (.cons (ru.keepG wg2 kn) .nil))⟩
theorem it_zipL {P : List D → Prop} {ta : TA} (h : PD.EvA W ta δ fun xs => ∃ ds es, xs = [.lst ds, .lst es] ∧ P (zipD ds es)) : IterD W (iZipA W.K ta) δ P := fun M σ H p R q => h M σ H p _ fun vs ds H1 g1 k1 r1 h1 => by
  obtain ⟨ds, es, rfl, hP⟩ := h1
  cases r1 with
  | cons r1 r2 =>
    cases r2 with
    | cons r2 r3 =>
      cases r3
      cases r1 with
      | lst na hs hr =>
        cases r2 with
        | lst nb hs' hr' => exact ⟨_, _, _, _, rfl, .inl ⟨.inl (.inl hs), .inl (.inl hs'), q _ H1 _ g1 k1 hP (src_zipL (p.wf.next g1 k1) na nb hs hr hs' hr')⟩⟩
def iEnumA (K : PySem.W.Frag) (ta : TA) : TI := fun σ H R => iEnumT K ta σ H R ∨ iEnum K ta σ H R
theorem pi_enumAK {X : Cx} {K : PySem.W.Frag} {e : Expr} {ta : TA} {p pos tpos : Pos} {elts : List Expr} {kk : Nat} (h : X.K = K) (hg : Gl X "enumerate") (hm : X.mg "enumerate" = none) (ha : PA X [e] ta) (hs : starEach [e] X.env = [(false, eval e X.env)] := by rfl) :
    PI X (.Tuple elts kk tpos) (.Call (.Name "enumerate" p) [e] [] pos) (iEnumA K ta) := by
  subst h
  exact ⟨fun pins s σ H R I h => by
    rcases h with h | h
    · exact (pi_enumT rfl hg hm ha hs).run pins s σ H R I h
    · exact (pi_enum hg hm ha hs).run pins s σ H R I h⟩
theorem src_enumL {M : Addr → Prop} {H1 : Hp} {a : Addr} {vs : List V} {ds : List D} (w : Wf W M H1) (na : ¬ M a) (hs : H1 a = some (.lst vs)) (hr : Reps W M H1 vs ds) : Src W M (Ite W.K a) H1 (enumD ds) := fun M' hm hn i H2 k g => by
  have wg : Wg W M' H1 := ⟨w.g, fun b e => hm b (w.sm b e)⟩
  have wg2 : Wg W M' H2 := ⟨g, fun b e => hm b (w.sm b e)⟩
  have hs2 : SqL W.K H2 a vs := .inl (.inl (rdL_keepM w.wg k na hs))
  have hr2 : Reps W M' H2 vs ds := (hr.more hn).keepM wg (k.mono hm)
  refine ⟨fun hl => ⟨vs, hs2, by rw [hr2.length, hl, enumD_length]; exact Nat.le_refl _⟩, fun d hd => ?_⟩
  obtain ⟨x, hx, rfl⟩ := enumD_get hd
  obtain ⟨v, hv, rv⟩ := hr2.get hx
  refine ⟨⟨vs, v, hs2, hv⟩, fun z H3 yy => ?_⟩
  obtain ⟨T, x1, rfl, hT, rfl, f1⟩ := yy
  have e1 := f1 vs hs2
  rw [hv] at e1
  cases e1
  have kn : Keep W H2 (upd H2 T (.tup [.int (i : Nat), v])) := Keep.new hT
  exact ⟨g.new hT, kn, .tup (SqT.of upd_same) (.cons (.int _) (.cons (rv.keepG wg2 kn) .nil))⟩
theorem it_enumAL {P : List D → Prop} {ta : TA} (h : PD.EvA W ta δ fun xs => ∃ ds, xs = [.lst ds] ∧ P (enumD ds)) : IterD W (iEnumA W.K ta) δ P := fun M σ H p R q => .inr (h M σ H p _ fun vs ds H1 g1 k1 r1 h1 => by
  obtain ⟨ds, rfl, hP⟩ := h1
  cases r1 with
  | cons r1 r2 =>
    cases r2
    cases r1 with
    | lst na hs hr => exact ⟨_, _, rfl, .inl (.inl hs), q _ H1 _ g1 k1 hP (src_enumL (p.wf.next g1 k1) na hs hr)⟩)
end
end PD
namespace WarM
/-- one place more may lie between -/
def wst (W : Nat → Nat → Bool) (k : Nat) : Nat → Nat → Bool := fun i j => W i j || (W i k && W k j)
def war (E : Nat → Nat → Bool) : Nat → Nat → Nat → Bool
  | 0 => E
  | k + 1 => wst (war E k) k
theorem war_more (E : Nat → Nat → Bool) (k i j : Nat) (h : war E k i j = true) : war E (k + 1) i j = true := by
  show (war E k i j || (war E k i k && war E k k j)) = true
  rw [h]; rfl
theorem war_through (E : Nat → Nat → Bool) : ∀ (k m i j : Nat), m < k → war E k i m = true → war E k m j = true → war E k i j = true
  | 0, m, i, j, h, _, _ => absurd h (Nat.not_lt_zero m)
  | k + 1, m, i, j, h, a, b => by
    have ih := war_through E k
    have a' : (war E k i m || (war E k i k && war E k k m)) = true := a
    have b' : (war E k m j || (war E k m k && war E k k j)) = true := b
    show (war E k i j || (war E k i k && war E k k j)) = true
    rw [Bool.or_eq_true, Bool.and_eq_true] at a' b' ⊢
    rcases Nat.lt_or_ge m k with mk | mk
    · rcases a' with a1 | ⟨a1, a2⟩ <;> rcases b' with b1 | ⟨b1, b2⟩
      · exact .inl (ih m i j mk a1 b1)
      · exact .inr ⟨ih m i k mk a1 b1, b2⟩
      · exact .inr ⟨a1, ih m k j mk a2 b1⟩
      · exact .inr ⟨a1, b2⟩
    · have : m = k := by omega
      subst this
      refine .inr ⟨?_, ?_⟩
      · rcases a' with a1 | ⟨a1, _⟩ <;> exact a1
      · rcases b' with b1 | ⟨_, b1⟩ <;> exact b1
/-- a way of m steps, all its places below n -/
inductive Way (E : Nat → Nat → Bool) (n : Nat) : Nat → Nat → Nat → Prop
  | one {i j : Nat} : E i j = true → Way E n 1 i j
  | more {m i k j : Nat} : Way E n m i k → k < n → E k j = true → Way E n (m + 1) i j
theorem Way.join {E : Nat → Nat → Bool} {n a i k : Nat} (h : Way E n a i k) (hk : k < n) : ∀ {b j : Nat}, Way E n b k j → Way E n (a + b) i j
  | _, _, .one e => .more h hk e
  | _, _, .more w hl e => .more (h.join hk w) hl e
theorem way_of_war {E : Nat → Nat → Bool} {n : Nat} : ∀ {k i j : Nat}, k ≤ n → war E k i j = true → ∃ m, Way E n m i j
  | 0, i, j, _, h => ⟨1, .one h⟩
  | k + 1, i, j, hk, h => by
    have h' : (war E k i j || (war E k i k && war E k k j)) = true := h
    rw [Bool.or_eq_true, Bool.and_eq_true] at h'
    rcases h' with h1 | ⟨h1, h2⟩
    · exact way_of_war (k := k) (Nat.le_of_succ_le hk) h1
    · obtain ⟨a, wa⟩ := way_of_war (n := n) (k := k) (Nat.le_of_succ_le hk) h1
      obtain ⟨b, wb⟩ := way_of_war (n := n) (k := k) (Nat.le_of_succ_le hk) h2
      exact ⟨a + b, wa.join (by omega) wb⟩
theorem war_up (E : Nat → Nat → Bool) (i j : Nat) (h : E i j = true) : ∀ k, war E k i j = true
  | 0 => h
  | k + 1 => war_more E k i j (war_up E i j h k)
theorem war_of_way {E : Nat → Nat → Bool} {n m i j : Nat} (h : Way E n m i j) : war E n i j = true := by
  induction h with
  | one e => exact war_up E _ _ e n
  | more w hk e ih => exact war_through E n _ _ _ hk ih (war_up E _ _ e n)
def pw (E : Nat → Nat → Bool) (n : Nat) : Nat → Nat → Nat → Bool
  | 0 => E
  | m + 1 => fun i j => (List.range n).any fun k => pw E n m i k && E k j
def sm (E : Nat → Nat → Bool) (n : Nat) : Nat → Nat → Nat → Bool
  | 0 => E
  | m + 1 => fun i j => sm E n m i j || pw E n (m + 1) i j
theorem pw_way {E : Nat → Nat → Bool} {n : Nat} : ∀ {m i j : Nat}, pw E n m i j = true ↔ Way E n (m + 1) i j
  | 0, i, j => ⟨fun h => .one h, fun h => by
    cases h with
    | one e => exact e
    | more w _ _ => cases w⟩
  | m + 1, i, j => by
    show ((List.range n).any fun k => pw E n m i k && E k j) = true ↔ _
    rw [List.any_eq_true]
    constructor
    · rintro ⟨k, hk, e⟩
      rw [Bool.and_eq_true] at e
      exact .more (pw_way.mp e.1) (List.mem_range.mp hk) e.2
    · intro h
      cases h with
      | more w hk e => exact ⟨_, List.mem_range.mpr hk, by rw [Bool.and_eq_true]; exact ⟨pw_way.mpr w, e⟩⟩
theorem sm_way {E : Nat → Nat → Bool} {n : Nat} : ∀ {m i j : Nat}, sm E n m i j = true ↔ ∃ l, l ≤ m + 1 ∧ Way E n l i j
  | 0, i, j => ⟨fun h => ⟨1, Nat.le_refl _, .one h⟩, fun ⟨l, hl, w⟩ => by
    cases w with
    | one e => exact e
    | more w _ _ =>
      cases w with
      | one => omega
      | more => omega⟩
  | m + 1, i, j => by
    show (sm E n m i j || pw E n (m + 1) i j) = true ↔ _
    rw [Bool.or_eq_true, sm_way, pw_way]
    constructor
    · rintro (⟨l, hl, w⟩ | w)
      · exact ⟨l, by omega, w⟩
      · exact ⟨_, Nat.le_refl _, w⟩
    · rintro ⟨l, hl, w⟩
      rcases Nat.lt_or_ge l (m + 2) with h | h
      · exact .inl ⟨l, by omega, w⟩
      · have : l = m + 2 := by omega
        subst this
        exact .inr w
/-- how many places below n are reached -/
theorem count_lt {p q : Nat → Bool} : ∀ {n : Nat}, (∀ j, j < n → p j = true → q j = true) → (∃ j, j < n ∧ p j = false ∧ q j = true) → ((List.range n).countP p) < (List.range n).countP q
  | 0, _, ⟨j, h, _⟩ => absurd h (Nat.not_lt_zero j)
  | n + 1, h, ⟨j, hj, a, b⟩ => by
    rw [List.range_succ, List.countP_append, List.countP_append]
    have le : (List.range n).countP p ≤ (List.range n).countP q := List.countP_mono_left fun x hx e => h x (by have := List.mem_range.mp hx; omega) e
    rcases Nat.lt_or_ge j n with jn | jn
    · have := count_lt (fun x hx => h x (by omega)) ⟨j, jn, a, b⟩
      have l2 : List.countP p [n] ≤ List.countP q [n] := List.countP_mono_left fun x hx e => h x (by simp at hx; omega) e
      omega
    · have : j = n := by omega
      subst this
      simp only [List.countP_cons, List.countP_nil, a, b]
      simp
      omega
theorem stop_at (S : Nat → Nat → Bool) (n : Nat) (up : ∀ m j, S m j = true → S (m + 1) j = true) (zero : ∀ j, S 0 j = false) : ∃ m, m ≤ n ∧ ∀ j, j < n → S (m + 1) j = true → S m j = true := by
  refine Classical.byContradiction fun no => ?_
  have grow : ∀ m, m ≤ n + 1 → m ≤ (List.range n).countP (S m) := fun m => by
    induction m with
    | zero => exact fun _ => Nat.zero_le _
    | succ m ih =>
      intro hm
      have h1 := ih (by omega)
      have : ∃ j, j < n ∧ S m j = false ∧ S (m + 1) j = true := by
        refine Classical.byContradiction fun no2 => no ⟨m, by omega, fun j hj e => ?_⟩
        cases h : S m j with
        | true => rfl
        | false => exact absurd ⟨j, hj, h, e⟩ no2
      have := count_lt (fun j _ e => up m j e) this
      omega
  have := grow (n + 1) (Nat.le_refl _)
  have l2 : (List.range n).countP (S (n + 1)) ≤ (List.range n).length := List.countP_le_length
  rw [List.length_range] at l2
  omega
/-- no way is needed that is longer than n -/
theorem way_short {E : Nat → Nat → Bool} {n i : Nat} : ∀ {m j : Nat}, j < n → Way E n m i j → ∃ l, l ≤ n ∧ Way E n l i j := by
  obtain ⟨S, S0, SS⟩ : ∃ S : Nat → Nat → Bool, (∀ j, S 0 j = false) ∧ ∀ m j, S (m + 1) j = sm E n m i j := ⟨fun m j => match m with | 0 => false | m + 1 => sm E n m i j, fun _ => rfl, fun _ _ => rfl⟩
  have hS : ∀ m j, S m j = true ↔ ∃ l, l ≤ m ∧ Way E n l i j := fun m j => by
    cases m with
    | zero =>
      rw [S0]
      exact ⟨(fun h => by cases h), (fun ⟨l, hl, w⟩ => by cases w <;> omega)⟩
    | succ m =>
      rw [SS]
      exact sm_way
  obtain ⟨t, tn, ht⟩ := stop_at S n (fun m j h => by
    obtain ⟨l, hl, w⟩ := (hS m j).mp h
    exact (hS _ j).mpr ⟨l, by omega, w⟩) S0
  have all : ∀ {m j : Nat}, Way E n m i j → j < n → S t j = true := by
    intro m j w
    have hT := fun m j => (hS m j).mp
    have hU := fun m j => (hS m j).mpr
    clear SS S0 hS
    induction w with
    | one e => exact fun hj => ht _ hj (hU _ _ ⟨1, by omega, .one e⟩)
    | more w hk e ih =>
      intro hj
      obtain ⟨l, hl, w'⟩ := hT _ _ (ih hT hU hk)
      exact ht _ hj (hU _ _ ⟨l + 1, by omega, .more w' hk e⟩)
  intro m j hj w
  obtain ⟨l, hl, w'⟩ := (hS _ _).mp (all w hj)
  exact ⟨l, by omega, w'⟩
theorem war_sm {E : Nat → Nat → Bool} {n i j : Nat} (h1 : 1 ≤ n) (hj : j < n) : war E n i j = sm E n (n - 1) i j := by
  rw [Bool.eq_iff_iff, sm_way]
  constructor
  · intro h
    obtain ⟨m, w⟩ := way_of_war (Nat.le_refl _) h
    obtain ⟨l, hl, w'⟩ := way_short hj w
    exact ⟨l, by omega, w'⟩
  · rintro ⟨l, _, w⟩
    exact war_of_way w
end WarM
namespace WarM
abbrev BM := List (List Bool)
def atB (M : BM) (i j : Nat) : Bool := (M.getD i []).getD j false
def DimB (M : BM) (r c : Nat) : Prop := M.length = r ∧ ∀ row ∈ M, row.length = c
theorem DimB.row {M : BM} {r c i : Nat} (d : DimB M r c) (h : i < r) : (M.getD i []).length = c := by
  have h' : i < M.length := by rw [d.1]; exact h
  rw [List.getD_eq_getElem?_getD, List.getElem?_eq_getElem h']
  exact d.2 _ (List.getElem_mem h')
theorem row_ext {x y : List Bool} (h : x.length = y.length) (e : ∀ j, j < x.length → x.getD j false = y.getD j false) : x = y := by
  apply List.ext_getElem h
  intro j h1 h2
  have := e j h1
  rwa [List.getD_eq_getElem?_getD, List.getD_eq_getElem?_getD, List.getElem?_eq_getElem h1, List.getElem?_eq_getElem h2] at this
theorem bm_ext {A B : BM} {r c : Nat} (dA : DimB A r c) (dB : DimB B r c) (h : ∀ i j, i < r → j < c → atB A i j = atB B i j) : A = B := by
  apply List.ext_getElem (dA.1.trans dB.1.symm)
  intro i h1 h2
  have hr : i < r := by rw [← dA.1]; exact h1
  apply row_ext ((dA.2 _ (List.getElem_mem h1)).trans (dB.2 _ (List.getElem_mem h2)).symm)
  intro j hj
  rw [dA.2 _ (List.getElem_mem h1)] at hj
  have := h i j hr hj
  unfold atB at this
  rwa [List.getD_eq_getElem?_getD (l := A), List.getD_eq_getElem?_getD (l := B), List.getElem?_eq_getElem h1, List.getElem?_eq_getElem h2] at this
theorem getD_map {α β : Type} {l : List α} {f : α → β} {i : Nat} {a : α} {b : β} (h : i < l.length) : (l.map f).getD i b = f (l.getD i a) := by
  rw [List.getD_eq_getElem?_getD, List.getElem?_map, List.getElem?_eq_getElem h, List.getD_eq_getElem?_getD, List.getElem?_eq_getElem h]
  rfl
theorem getD_range {β : Type} {n : Nat} {f : Nat → β} {i : Nat} {b : β} (h : i < n) : ((List.range n).map f).getD i b = f i := by
  rw [List.getD_eq_getElem?_getD, List.getElem?_map, List.getElem?_range h]
  rfl
theorem getD_zipW {x y : List Bool} {f : Bool → Bool → Bool} {j : Nat} (h1 : j < x.length) (h2 : j < y.length) : (List.zipWith f x y).getD j false = f (x.getD j false) (y.getD j false) := by
  simp only [List.getD_eq_getElem?_getD, List.getElem?_zipWith, List.getElem?_eq_getElem h1, List.getElem?_eq_getElem h2]
  rfl
theorem any_cg {α : Type} {p q : α → Bool} : ∀ {l : List α}, (∀ k ∈ l, p k = q k) → l.any p = l.any q
  | [], _ => rfl
  | a :: l, h => by rw [List.any_cons, List.any_cons, h a List.mem_cons_self, any_cg fun k hk => h k (List.mem_cons_of_mem _ hk)]
def colsB (M : BM) (n : Nat) : BM := (List.range n).map fun j => M.map fun row => row.getD j false
def innerB (r c : List Bool) : Bool := (r.zip c).any fun p => p.1 && p.2
def timesC (A B : BM) (n : Nat) : BM := A.map fun row => (colsB B n).map fun col => innerB row col
def orR (x y : List Bool) : List Bool := List.zipWith (fun a b => a || b) x y
def sumsB (A B : BM) : BM := List.zipWith orR A B
def withP (row : List Bool) (to : Bool) (frm : List Bool) : List Bool := if to then orR row frm else row
def stepW (S : BM) (k : Nat) : BM := S.map fun row => withP row (row.getD k false) (S.getD k [])
def starW (M : BM) : BM := (List.range M.length).foldl stepW M
def timesL (A B : BM) : BM := A.map fun row => (List.range (B.getD 0 []).length).map fun j => (List.range B.length).any fun k => row.getD k false && atB B k j
def plusL (A B : BM) : BM := (List.range A.length).map fun i => (List.range (A.getD i []).length).map fun j => atB A i j || atB B i j
def starL (M : BM) : BM × BM := (List.range (M.length - 1)).foldl (fun s _ => (plusL s.1 (timesL s.2 M), timesL s.2 M)) (M, M)
theorem dim_timesL {A B : BM} {r m c : Nat} (a : DimB A r m) (b : DimB B m c) (hm : 1 ≤ m) : DimB (timesL A B) r c := ⟨by simp [timesL, a.1], fun row h => by
  obtain ⟨x, hx, rfl⟩ := List.mem_map.mp h
  rw [List.length_map, List.length_range]
  exact b.row (by omega)⟩
theorem at_timesL {A B : BM} {r m c i j : Nat} (a : DimB A r m) (b : DimB B m c) (hm : 1 ≤ m) (hi : i < r) (hj : j < c) : atB (timesL A B) i j = (List.range m).any fun k => atB A i k && atB B k j := by
  unfold atB timesL
  rw [getD_map (a := []) (by rw [a.1]; exact hi), getD_range (by rw [b.row (by omega)]; exact hj), b.1]
  rfl
theorem dim_plusL {A B : BM} {r c : Nat} (a : DimB A r c) : DimB (plusL A B) r c := ⟨by simp [plusL, a.1], fun row h => by
  obtain ⟨i, hi, rfl⟩ := List.mem_map.mp h
  rw [List.length_map, List.length_range]
  exact a.row (by rw [← a.1]; exact List.mem_range.mp hi)⟩
theorem at_plusL {A B : BM} {r c i j : Nat} (a : DimB A r c) (hi : i < r) (hj : j < c) : atB (plusL A B) i j = (atB A i j || atB B i j) := by
  unfold plusL
  conv => lhs; unfold atB
  rw [getD_range (by rw [a.1]; exact hi), getD_range (by rw [a.row hi]; exact hj)]
  rfl
theorem innerB_at {x y : List Bool} {m : Nat} (hx : x.length = m) (hy : y.length = m) : innerB x y = (List.range m).any fun k => x.getD k false && y.getD k false := by
  subst hx
  unfold innerB
  rw [Bool.eq_iff_iff, List.any_eq_true, List.any_eq_true]
  constructor
  · rintro ⟨p, hp, e⟩
    obtain ⟨k, hk⟩ := List.getElem?_of_mem hp
    rw [List.getElem?_zip_eq_some] at hk
    refine ⟨k, List.mem_range.mpr (List.getElem?_eq_some_iff.mp hk.1).1, ?_⟩
    simp only [List.getD_eq_getElem?_getD, hk.1, hk.2]
    exact e
  · rintro ⟨k, hk, e⟩
    have h1 := List.mem_range.mp hk
    refine ⟨(x[k], y[k]'(by omega)), ?_, ?_⟩
    · apply List.mem_of_getElem? (i := k)
      rw [List.getElem?_zip_eq_some]
      exact ⟨List.getElem?_eq_getElem h1, List.getElem?_eq_getElem (by omega)⟩
    · simpa [List.getD_eq_getElem?_getD, List.getElem?_eq_getElem h1, List.getElem?_eq_getElem (show k < y.length by omega)] using e
theorem timesC_eq {A B : BM} {r m c : Nat} (a : DimB A r m) (b : DimB B m c) (hm : 1 ≤ m) : timesC A B c = timesL A B := by
  have d1 : DimB (timesC A B c) r c := ⟨by simp [timesC, a.1], fun row h => by
    obtain ⟨x, hx, rfl⟩ := List.mem_map.mp h
    simp [colsB]⟩
  refine bm_ext d1 (dim_timesL a b hm) fun i j hi hj => ?_
  rw [at_timesL a b hm hi hj]
  unfold atB timesC
  rw [getD_map (a := []) (by rw [a.1]; exact hi), getD_map (a := []) (by simp [colsB]; exact hj)]
  unfold colsB
  rw [getD_range hj, innerB_at (a.row hi) (by rw [List.length_map]; exact b.1)]
  refine any_cg fun k hk => ?_
  rw [getD_map (a := []) (by rw [b.1]; exact List.mem_range.mp hk)]
theorem sumsB_eq {A B : BM} {r c : Nat} (a : DimB A r c) (b : DimB B r c) : sumsB A B = plusL A B := by
  have d1 : DimB (sumsB A B) r c := ⟨by simp [sumsB, a.1, b.1], fun row h => by
    unfold sumsB at h
    obtain ⟨i, hi, e⟩ := List.mem_iff_getElem.mp h
    rw [List.getElem_zipWith] at e
    subst e
    unfold orR
    rw [List.length_zipWith, a.2 _ (List.getElem_mem _), b.2 _ (List.getElem_mem _), Nat.min_self]⟩
  refine bm_ext d1 (dim_plusL a) fun i j hi hj => ?_
  rw [at_plusL a hi hj]
  have ha : i < A.length := by rw [a.1]; exact hi
  have hb : i < B.length := by rw [b.1]; exact hi
  have e : (sumsB A B).getD i [] = orR (A.getD i []) (B.getD i []) := by
    unfold sumsB
    simp only [List.getD_eq_getElem?_getD, List.getElem?_zipWith, List.getElem?_eq_getElem ha, List.getElem?_eq_getElem hb]
    rfl
  unfold atB
  rw [e]
  exact getD_zipW (by rw [a.row hi]; exact hj) (by rw [b.row hi]; exact hj)
theorem dim_stepW {S : BM} {n k : Nat} (d : DimB S n n) (hk : k < n) : DimB (stepW S k) n n := ⟨by simp [stepW, d.1], fun row h => by
  obtain ⟨x, hx, rfl⟩ := List.mem_map.mp h
  unfold withP
  split
  · unfold orR
    rw [List.length_zipWith, d.2 _ hx, d.row hk, Nat.min_self]
  · exact d.2 _ hx⟩
theorem at_stepW {S : BM} {n k i j : Nat} (d : DimB S n n) (hk : k < n) (hi : i < n) (hj : j < n) : atB (stepW S k) i j = (atB S i j || (atB S i k && atB S k j)) := by
  unfold stepW
  conv => lhs; unfold atB
  rw [getD_map (a := []) (by rw [d.1]; exact hi)]
  show (withP (S.getD i []) (atB S i k) (S.getD k [])).getD j false = _
  unfold withP
  cases h : atB S i k with
  | false =>
    rw [if_neg (by simp)]
    simp
    rfl
  | true =>
    rw [if_pos rfl]
    unfold orR
    rw [getD_zipW (by rw [d.row hi]; exact hj) (by rw [d.row hk]; exact hj)]
    simp
    rfl
theorem foldW {M : BM} {n : Nat} (d : DimB M n n) : ∀ k, k ≤ n → DimB ((List.range k).foldl stepW M) n n ∧ ∀ i j, i < n → j < n → atB ((List.range k).foldl stepW M) i j = war (atB M) k i j
  | 0, _ => ⟨d, fun _ _ _ _ => rfl⟩
  | k + 1, h => by
    obtain ⟨a, b⟩ := foldW d k (by omega)
    rw [List.range_succ, List.foldl_append]
    refine ⟨dim_stepW a (by omega), fun i j hi hj => ?_⟩
    show atB (stepW _ k) i j = _
    rw [at_stepW a (by omega) hi hj, b i j hi hj, b i k hi (by omega), b k j (by omega) hj]
    rfl
theorem foldL {M : BM} {n : Nat} (d : DimB M n n) (h1 : 1 ≤ n) : ∀ m, let s := (List.range m).foldl (fun (s : BM × BM) _ => (plusL s.1 (timesL s.2 M), timesL s.2 M)) (M, M)
    DimB s.1 n n ∧ DimB s.2 n n ∧ ∀ i j, i < n → j < n → atB s.1 i j = sm (atB M) n m i j ∧ atB s.2 i j = pw (atB M) n m i j
  | 0 => ⟨d, d, fun _ _ _ _ => ⟨rfl, rfl⟩⟩
  | m + 1 => by
    obtain ⟨a, b, c⟩ := foldL d h1 m
    rw [List.range_succ, List.foldl_append]
    have q : ∀ i j, i < n → j < n → atB (timesL ((List.range m).foldl (fun (s : BM × BM) _ => (plusL s.1 (timesL s.2 M), timesL s.2 M)) (M, M)).2 M) i j = pw (atB M) n (m + 1) i j := fun i j hi hj => by
      rw [at_timesL b d h1 hi hj]
      show _ = (List.range n).any fun k => pw (atB M) n m i k && atB M k j
      refine any_cg fun k hk => ?_
      rw [(c i k hi (List.mem_range.mp hk)).2]
    refine ⟨dim_plusL a, dim_timesL b d h1, fun i j hi hj => ⟨?_, q i j hi hj⟩⟩
    show atB (plusL _ _) i j = _
    rw [at_plusL a hi hj, (c i j hi hj).1, q i j hi hj]
    rfl
theorem starW_eq {M : BM} {n : Nat} (d : DimB M n n) (h1 : 1 ≤ n) : starW M = (starL M).1 := by
  unfold starW starL
  rw [d.1]
  obtain ⟨a, b⟩ := foldW d n (Nat.le_refl _)
  obtain ⟨x, _, y⟩ := foldL d h1 (n - 1)
  refine bm_ext a x fun i j hi hj => ?_
  rw [b i j hi hj, (y i j hi hj).1]
  exact war_sm h1 hj
end WarM
namespace PDY
open PySem PySem.Spec PyProof.Rows L2 RZ PDZ
/-- an iterator, its list, what that holds, and what comes next -/
structure Cell where
  it : Addr
  l : Addr
  xs : Array Value
  u : Value
def tupAt (h : Heap) (T : Addr) (us : List Value) : Prop := h.get? T = some { cls := .type "tuple", data := .seq us.toArray }
structure Apart (z TI TO : Addr) (R : List Cell) : Prop where
  TIz : TI ≠ z
  TOz : TO ≠ z
  TITO : TI ≠ TO
  iz : ∀ c ∈ R, c.it ≠ z ∧ c.it ≠ TI ∧ c.it ≠ TO ∧ c.l ≠ z ∧ c.l ≠ TO
  nd : ∀ (j k : Nat) (c d : Cell), R[j]? = some c → R[k]? = some d → j ≠ k → c.it ≠ d.it
  li : ∀ c ∈ R, ∀ d ∈ R, c.l ≠ d.it
def KeptN (z TO : Addr) (R : List Cell) (h h' : Heap) : Prop := ∀ a o, a ≠ z → a ≠ TO → (∀ c ∈ R, a ≠ c.it) → h.get? a = some o → h'.get? a = some o
/-- how far the iterators are: the first k one further -/
def ItsAt (R : List Cell) (i k : Nat) (h : Heap) : Prop := ∀ (j : Nat) (c : Cell), R[j]? = some c → h.IsListIter c.it c.l (if j < k then i + 1 else i) ∧ h.IsList c.l c.xs
theorem ItsAt.turn {z TI TO : Addr} {R : List Cell} {i k : Nat} {h h' : Heap} (D : Apart z TI TO R) {c : Cell} (hc : R[k]? = some c) (t : ItsAt R i k h) (n : h'.IsListIter c.it c.l (i + 1)) (e : Heap.SameBut c.it h h') : ItsAt R i (k + 1) h' := fun j d hd => by
  obtain ⟨a, b⟩ := t j d hd
  have mc := List.mem_of_getElem? hc
  have md := List.mem_of_getElem? hd
  refine ⟨?_, b.extBut e.extBut (D.li d md c mc)⟩
  by_cases hj : j = k
  · subst hj
    rw [hc] at hd
    cases hd
    rw [if_pos (by omega)]
    exact n
  · have e1 : (if j < k + 1 then i + 1 else i) = (if j < k then i + 1 else i) := by
      split <;> split <;> omega
    rw [e1]
    exact a.extBut e.extBut (D.nd j k d c hd hc hj)
theorem ItsAt.off {R : List Cell} {i k : Nat} {h h' : Heap} (t : ItsAt R i k h) {a : Addr} (na : ∀ c ∈ R, c.it ≠ a ∧ c.l ≠ a) (e : Heap.SameBut a h h') : ItsAt R i k h' := fun j d hd => by
  obtain ⟨x, y⟩ := t j d hd
  have := na d (List.mem_of_getElem? hd)
  exact ⟨x.extBut e.extBut this.1, y.extBut e.extBut this.2⟩
section
variable {w : World} {prog : Program} {s : Shared} {A : Around} {E : Value → Shared → Prop}
theorem upd_tup {T : Addr} {us : List Value} {x : Value} {k : Nat} {Q : Unit → Shared → Prop} (hT : tupAt s.heap T us) (hl : us.length ≤ 1000)
    (h : ∀ h', tupAt h' T (us.set k x) → Heap.SameBut T s.heap h' → Q () { s with heap := h' }) : wpAny (model prog w) A (updateSeq T (·.setIfInBounds k x)) Q E s := by
  refine wpAny_updateSeq hT rfl (h _ ?_ (Heap.SameBut.update ..)) (hz := by rw [List.size_toArray]; exact Nat.le_trans hl (by decide)) (_hz' := by rw [Array.size_setIfInBounds, List.size_toArray]; exact Nat.le_trans hl (by decide))
  unfold tupAt
  rw [Heap.get?_update_self _ hT rfl]
  simp [Obj.mapSeq]
theorem drop_cons {R : List Cell} {k : Nat} {x : Value} {rest : List Value} (h : x :: rest = (R.drop k).map fun c => Value.ref c.it) : ∃ c, R[k]? = some c ∧ x = .ref c.it ∧ rest = (R.drop (k + 1)).map (fun c => Value.ref c.it) ∧ k < R.length := by
  have hk : k < R.length := by
    rcases Nat.lt_or_ge k R.length with h1 | h1
    · exact h1
    · rw [List.drop_of_length_le h1] at h
      cases h
  rw [List.drop_eq_getElem_cons hk, List.map_cons] at h
  injection h with a b
  exact ⟨R[k], List.getElem?_eq_getElem hk, a, b, hk⟩
theorem drop_consI {R : List Cell} {k : Nat} {x : Value × Nat} {rest : List (Value × Nat)} (h : x :: rest = ((R.drop k).map fun c => Value.ref c.it).zipIdx k) : ∃ c, R[k]? = some c ∧ x = (.ref c.it, k) ∧ rest = ((R.drop (k + 1)).map (fun c => Value.ref c.it)).zipIdx (k + 1) ∧ k < R.length := by
  have hk : k < R.length := by
    rcases Nat.lt_or_ge k R.length with h1 | h1
    · exact h1
    · rw [List.drop_of_length_le h1] at h
      cases h
  rw [List.drop_eq_getElem_cons hk, List.map_cons, List.zipIdx_cons] at h
  injection h with a b
  exact ⟨R[k], List.getElem?_eq_getElem hk, a, b, hk⟩
theorem drop_nilI {R : List Cell} {k : Nat} (h : [] = ((R.drop k).map fun c => Value.ref c.it).zipIdx k) : R.length ≤ k := by
  have := congrArg List.length h
  simp at this
  omega
theorem drop_nil {R : List Cell} {k : Nat} (h : [] = (R.drop k).map fun c => Value.ref c.it) : R.length ≤ k := by
  have := congrArg List.length h
  simp at this
  omega
theorem zip_itemN {z TI TO : Addr} {R : List Cell} {i : Nat} {v : Value} {f : Bool} {us : List Value} {Q : Value → Shared → Prop} (D : Apart z TI TO R) (hv : v = .none ∨ ∃ T : Addr, v = rawInt T) (ne : R ≠ [])
    (hz : zo s.heap z TI TO v f) (pI : tupAt s.heap TI (R.map fun c => .ref c.it)) (pO : tupAt s.heap TO us) (lO : us.length = R.length) (lR : R.length ≤ 1000) (t : ItsAt R i 0 s.heap) (gu : ∀ c ∈ R, c.xs[i]? = some c.u)
    (q : ∀ h' v' f' us', (v' = .none ∨ ∃ T : Addr, v' = rawInt T) → zo h' z TI TO v' f' → tupAt h' TO us' → us'.length = R.length → ItsAt R i R.length h' → tupAt h' s.heap.objs.size (R.map (·.u)) → h'.objs.size = s.heap.objs.size + 1 →
      KeptN z TO R s.heap h' → Q (.ref s.heap.objs.size) { s with heap := h' }) :
    wpAny (model prog w) A (Builtin.«zip.__next__» ⟨[.ref z], []⟩) (fun fin s' => ∃ u, fin = .done (.ret u) ∧ Q u s') E s := by
  refine wpAny_bind (m := field (.ref z) 2) (wpAny_field hz rfl (x := .bool false) rfl ?_)
  refine wpAny_bind (m := field (.ref z) 3) (wpAny_field hz rfl (x := .ref TI) rfl (wpAny_bind (wpAny_seqItems pI rfl ?_)))
  have en : ((R.map fun c => Value.ref c.it).toArray).isEmpty = false := by
    cases R with
    | nil => exact absurd rfl ne
    | cons a b => rfl
  simp only [en]
  refine wpAny_bind (m := Builtin.SmallTypes.ownedTupleIsFree (.ref z)) (zip_free hv hz fun free g f' hg gs => ?_)
  have gk : KeptN z TO R s.heap g := fun a o n1 _ _ e => gs.extBut _ _ n1 e
  have tg : ItsAt R i 0 g := t.off (fun c hc => ⟨(D.iz c hc).1, (D.iz c hc).2.2.2.1⟩) gs
  have oO : tupAt g TO us := gs.extBut _ _ D.TOz pO
  cases free with
  | false =>
    simp only [Bool.false_eq_true, if_false, ← Array.forIn_toList]
    refine wpAny_bind (wpAny_mono (wpAny_forIn_list _ (fun rest b s' => ∃ k h', k ≤ R.length ∧ rest = (R.drop k).map (fun c => Value.ref c.it) ∧ b = (none, ((R.take k).map (·.u)).toArray) ∧ s' = { s with heap := h' } ∧ zo h' z TI TO v f' ∧ tupAt h' TO us ∧ ItsAt R i k h' ∧ h'.objs.size = s.heap.objs.size ∧ KeptN z TO R s.heap h')
      (fun b s' => ∃ h', b = (none, (R.map (·.u)).toArray) ∧ s' = { s with heap := h' } ∧ zo h' z TI TO v f' ∧ tupAt h' TO us ∧ ItsAt R i R.length h' ∧ h'.objs.size = s.heap.objs.size ∧ KeptN z TO R s.heap h') ?_ ?_ _ _ ?_) ?_ fun _ _ h => h)
    · rintro x rest b s' ⟨k, h', kl, er, rfl, rfl, z1, o1, t1, sz, kk⟩
      obtain ⟨c, hc, rfl, er2, kl2⟩ := drop_cons er
      have mc := List.mem_of_getElem? hc
      have dc := D.iz c mc
      obtain ⟨a1, a2⟩ := t1 k c hc
      rw [if_neg (Nat.lt_irrefl k)] at a1
      refine wpAny_bind (wpAny_holding (wpAny_bind (m := Builtin.SmallTypes.nextOf (.ref c.it)) (wpAny_nextOf_list_item a1 a2 (gu c mc) fun h2 n2 e2 => wpAny_pure (wpAny_pure ?_))))
      refine ⟨k + 1, h2, kl2, er2, ?_, rfl, e2.extBut _ _ dc.1.symm z1, e2.extBut _ _ dc.2.2.1.symm o1, t1.turn D hc n2 e2, e2.1.trans sz, fun a o n1 n2 n3 e => e2.extBut _ _ (n3 c mc) (kk a o n1 n2 n3 e)⟩
      rw [List.take_add_one, hc]
      simp
    · rintro b s' ⟨k, h', kl, er, rfl, rfl, z1, o1, t1, sz, kk⟩
      have := drop_nil er
      have ek : k = R.length := by omega
      subst ek
      rw [List.take_length]
      exact ⟨h', rfl, rfl, z1, o1, t1, sz, kk⟩
    · exact ⟨0, g, Nat.zero_le _, by rw [List.drop_zero], by simp, rfl, hg, oO, tg, gs.1, gk⟩
    · rintro b s' ⟨h', rfl, rfl, z1, o1, t1, sz, kk⟩
      refine wpAny_bind (m := newTuple (R.map (·.u))) (wpAny_newTuple ?_ (by rw [List.length_map]; exact Nat.le_trans lR (by decide)))
      refine wpAny_pure ⟨_, rfl, ?_⟩
      have up : ∀ {c : Addr} {o : Obj}, h'.get? c = some o → (h'.push { cls := .type "tuple", data := .seq (R.map (·.u)).toArray }).get? c = some o := fun e => Heap.get?_push_of_some _ e
      have got : tupAt (h'.push { cls := .type "tuple", data := .seq (R.map (·.u)).toArray }) h'.objs.size (R.map (·.u)) := Heap.get?_push_size _ rfl
      have more : (h'.push { cls := .type "tuple", data := .seq (R.map (·.u)).toArray }).objs.size = h'.objs.size + 1 := Heap.size_push ..
      rw [sz] at got more
      show Q (.ref h'.objs.size) _
      rw [sz]
      exact q _ v f' us hv (up z1) (up o1) lO (fun j c hc => ⟨(t1 j c hc).1.at fun o e => up e, (t1 j c hc).2.at fun o e => up e⟩) got more fun a o n1 n2 n3 e => up (kk a o n1 n2 n3 e)
  | true =>
    simp only [if_true]
    refine wpAny_bind (wpAny_rule (wpAny_bind (wpAny_field hg rfl (x := .ref TO) rfl (wpAny_bind (wpAny_setField_rec hg (by simp) fun h1 z1 e1 => ?_)))))
    replace z1 : zo h1 z TI TO .ellipsis f' := z1
    have t1 : ItsAt R i 0 h1 := tg.off (fun c hc => ⟨(D.iz c hc).1, (D.iz c hc).2.2.2.1⟩) e1
    have o1 : tupAt h1 TO us := e1.extBut _ _ D.TOz oO
    have k1 : KeptN z TO R s.heap h1 := fun a o n1 n2 n3 e => e1.extBut _ _ n1 (gk a o n1 n2 n3 e)
    have sz1 : h1.objs.size = s.heap.objs.size := e1.1.trans gs.1
    refine wpAny_bind (wpAny_mono (wpAny_forIn_list _ (fun rest b s' => ∃ k h' us', k ≤ R.length ∧ rest = ((R.drop k).map (fun c => Value.ref c.it)).zipIdx k ∧ b = (none, ()) ∧ s' = { s with heap := h' } ∧ zo h' z TI TO .ellipsis f' ∧ tupAt h' TO us' ∧ us'.length = R.length ∧ us'.take k = (R.take k).map (·.u) ∧ ItsAt R i k h' ∧ h'.objs.size = s.heap.objs.size ∧ KeptN z TO R s.heap h')
      (fun b s' => ∃ h', b = (none, ()) ∧ s' = { s with heap := h' } ∧ zo h' z TI TO .ellipsis f' ∧ tupAt h' TO (R.map (·.u)) ∧ ItsAt R i R.length h' ∧ h'.objs.size = s.heap.objs.size ∧ KeptN z TO R s.heap h') ?_ ?_ _ _ ?_) ?_ fun _ _ h => h)
    · rintro x rest b s' ⟨k, h', us', kl, er, rfl, rfl, z1, o1, l1, tk, t1, sz, kk⟩
      obtain ⟨c, hc, rfl, er2, kl2⟩ := drop_consI er
      have mc := List.mem_of_getElem? hc
      have dc := D.iz c mc
      obtain ⟨a1, a2⟩ := t1 k c hc
      rw [if_neg (Nat.lt_irrefl k)] at a1
      refine wpAny_bind (wpAny_onRaise (wpAny_bind (m := Builtin.SmallTypes.nextOf (.ref c.it)) (wpAny_nextOf_list_item a1 a2 (gu c mc) fun h2 n2 e2 => wpAny_pure ?_)))
      have o2 : tupAt h2 TO us' := e2.extBut _ _ dc.2.2.1.symm o1
      refine wpAny_bind (wpAny_seqItems (s := { s with heap := h2 }) o2 rfl (wpAny_bind (upd_tup (s := { s with heap := h2 }) o2 (by omega) fun h3 o3 e3 => wpAny_bind (wpAny_letGo (wpAny_pure ?_)))))
      have z2 : zo h2 z TI TO .ellipsis f' := e2.extBut _ _ dc.1.symm z1
      refine ⟨k + 1, h3, us'.set k c.u, kl2, er2, rfl, rfl, e3.extBut _ _ D.TOz.symm z2, o3, by rw [List.length_set]; exact l1, ?_, (t1.turn D hc n2 e2).off (fun d hd => ⟨(D.iz d hd).2.2.1, (D.iz d hd).2.2.2.2⟩) e3, e3.1.trans (e2.1.trans sz), fun a o n1 n2 n3 e => e3.extBut _ _ n2 (e2.extBut _ _ (n3 c mc) (kk a o n1 n2 n3 e))⟩
      rw [List.take_add_one, List.take_add_one, hc, List.take_set_of_le (Nat.le_refl k), tk, List.getElem?_set_self (by omega)]
      simp
    · rintro b s' ⟨k, h', us', kl, er, rfl, rfl, z1, o1, l1, tk, t1, sz, kk⟩
      have := drop_nilI er
      have ek : k = R.length := by omega
      subst ek
      rw [List.take_length, List.take_of_length_le (by omega)] at tk
      subst tk
      exact ⟨h', rfl, rfl, z1, o1, t1, sz, kk⟩
    · exact ⟨0, h1, us, Nat.zero_le _, by rw [List.drop_zero], rfl, rfl, z1, o1, lO, by simp, t1, sz1, k1⟩
    · rintro b s' ⟨h5, rfl, rfl, z5, o5, t5, sz, kk⟩
      refine wpAny_bind (wpAny_seqItems (s := { s with heap := h5 }) o5 rfl (wpAny_bind (m := newTuple (R.map (·.u))) (wpAny_newTuple ?_ (by rw [List.length_map]; exact Nat.le_trans lR (by decide)))))
      have lz : z ≠ h5.objs.size := Nat.ne_of_lt (Heap.lt_size z5)
      unfold Builtin.SmallTypes.ownedTupleHandOut
      have z6 : zo (h5.push { cls := .type "tuple", data := .seq (R.map (·.u)).toArray }) z TI TO .ellipsis f' := Heap.get?_push_of_some _ z5
      refine wpAny_bind (wpAny_bind (wpAny_setField_rec z6 (by simp) fun h7 z7 e7 => ?_))
      replace z7 : zo h7 z TI TO (rawInt h5.objs.size) f' := z7
      refine wpAny_setField_rec z7 (by simp) fun h8 z8 e8 => wpAny_pure ⟨_, rfl, ?_⟩
      replace z8 : zo h8 z TI TO (rawInt h5.objs.size) false := z8
      have up : ∀ {c : Addr} {o : Obj}, c ≠ z → (h5.push { cls := .type "tuple", data := .seq (R.map (·.u)).toArray }).get? c = some o → h8.get? c = some o := fun n e => e8.extBut _ _ n (e7.extBut _ _ n e)
      have old : ∀ {c : Addr} {o : Obj}, c ≠ z → h5.get? c = some o → h8.get? c = some o := fun n e => up n (Heap.get?_push_of_some _ e)
      have got : tupAt h8 h5.objs.size (R.map (·.u)) := up lz.symm (Heap.get?_push_size _ rfl)
      have more : h8.objs.size = h5.objs.size + 1 := e8.1.trans (e7.1.trans (Heap.size_push ..))
      rw [sz] at z8 got more
      show Q (.ref h5.objs.size) _
      rw [sz]
      exact q h8 _ false _ (.inr ⟨_, rfl⟩) z8 (old D.TOz o5) (by rw [List.length_map]) (fun j c hc => ⟨(t5 j c hc).1.at fun o e => old (D.iz c (List.mem_of_getElem? hc)).1 e, (t5 j c hc).2.at fun o e => old (D.iz c (List.mem_of_getElem? hc)).2.2.2.1 e⟩) got more fun a o n1 n2 n3 e => old n1 (kk a o n1 n2 n3 e)
/-- the first one has no item more -/
theorem zip_endN {z TI TO : Addr} {c0 : Cell} {R : List Cell} {i : Nat} {v : Value} {f : Bool} {us : List Value} {Q : Fin → Shared → Prop} (calm : A.handled = none) (D : Apart z TI TO (c0 :: R)) (hv : v = .none ∨ ∃ T : Addr, v = rawInt T)
    (hz : zo s.heap z TI TO v f) (pI : tupAt s.heap TI ((c0 :: R).map fun c => .ref c.it)) (t : ItsAt (c0 :: R) i 0 s.heap) (no : c0.xs[i]? = none)
    (q : ∀ h' e, KeptN z TO (c0 :: R) s.heap h' → (∃ o, h'.get? e = some o ∧ o.cls = .type "StopIteration") → E (.ref e) { s with heap := h' }) :
    wpAny (model prog w) A (Builtin.«zip.__next__» ⟨[.ref z], []⟩) Q E s := by
  refine wpAny_bind (m := field (.ref z) 2) (wpAny_field hz rfl (x := .bool false) rfl ?_)
  refine wpAny_bind (m := field (.ref z) 3) (wpAny_field hz rfl (x := .ref TI) rfl (wpAny_bind (wpAny_seqItems pI rfl ?_)))
  have en : (((c0 :: R).map fun c => Value.ref c.it).toArray).isEmpty = false := rfl
  simp only [en]
  refine wpAny_bind (m := Builtin.SmallTypes.ownedTupleIsFree (.ref z)) (zip_free hv hz fun free g f' hg gs => ?_)
  have d0 := D.iz c0 List.mem_cons_self
  have gk : KeptN z TO (c0 :: R) s.heap g := fun a o n1 _ _ e => gs.extBut _ _ n1 e
  have tg : ItsAt (c0 :: R) i 0 g := t.off (fun c hc => ⟨(D.iz c hc).1, (D.iz c hc).2.2.2.1⟩) gs
  obtain ⟨a1, a2⟩ := tg 0 c0 rfl
  rw [if_neg (Nat.lt_irrefl 0)] at a1
  cases free with
  | false =>
    simp only [Bool.false_eq_true, if_false, ← Array.forIn_toList, List.map_cons, List.forIn_cons]
    exact wpAny_bind (wpAny_bind (wpAny_bind (wpAny_holding (wpAny_bind (m := Builtin.SmallTypes.nextOf (.ref c0.it)) (wpAny_nextOf_list_end calm a1 a2 no fun h2 e e2 he => q h2 e (fun a o n1 n2 n3 y => e2 _ _ (n3 c0 List.mem_cons_self) (gk a o n1 n2 n3 y)) he)))))
  | true =>
    simp only [if_true, List.map_cons, List.zipIdx_cons, List.forIn_cons]
    refine wpAny_bind (wpAny_rule (wpAny_bind ?_))
    obtain ⟨TO', hTO⟩ : ∃ x, x = TO := ⟨TO, rfl⟩
    refine wpAny_field hg rfl (x := .ref TO) rfl (wpAny_bind (wpAny_setField_rec hg (by simp) fun h1 z1 e1 => ?_))
    replace z1 : zo h1 z TI TO .ellipsis f' := z1
    refine wpAny_bind (wpAny_bind (wpAny_bind (wpAny_onRaise (wpAny_bind (m := Builtin.SmallTypes.nextOf (.ref c0.it)) (wpAny_nextOf_list_end calm (a1.extBut e1.extBut d0.1) (a2.extBut e1.extBut d0.2.2.2.1) no fun h2 e e2 he => ?_)))))
    obtain ⟨o, ho, hc⟩ := he
    have z2 : zo h2 z TI TO .ellipsis f' := e2 _ _ d0.1.symm z1
    have ez : e ≠ z := fun y => by
      rw [y, z2] at ho
      rw [← Option.some.inj ho] at hc
      simp at hc
    exact wpAny_setField_rec z2 (by simp) fun h3 _ e3 => q h3 e (fun a o n1 n2 n3 y => e3.extBut _ _ n1 (e2 _ _ (n3 c0 List.mem_cons_self) (e1.extBut _ _ n1 (gk a o n1 n2 n3 y)))) ⟨o, e3.extBut _ _ ez ho, hc⟩
/-- the lists' iterators, made one behind another -/
abbrev litO (l : Addr) : Obj := { cls := .type "list_iterator", data := .fields #[.ref l, .int 0 0] }
theorem iter_lists {ls : List Addr} {Q : List Value → Shared → Prop} (hl : ∀ l ∈ ls, ∃ xs, s.heap.IsList l xs) (lz : ls.length ≤ 1000)
    (q : ∀ h', h'.objs.size = s.heap.objs.size + ls.length → (∀ c o, s.heap.get? c = some o → h'.get? c = some o) → (∀ j l, ls[j]? = some l → h'.get? (s.heap.objs.size + j) = some (litO l)) → Q ((List.range ls.length).map fun j => .ref (s.heap.objs.size + j)) { s with heap := h' }) :
    wpAny (model prog w) A (Builtin.SmallTypes.iterAll (ls.map Value.ref)) Q E s := by
  unfold Builtin.SmallTypes.iterAll
  refine wpAny_bind (wpAny_mono (wpAny_forIn_list _ (fun rest b s' => ∃ k h', k ≤ ls.length ∧ rest = (ls.drop k).map Value.ref ∧ b = ((List.range k).map fun j => Value.ref (s.heap.objs.size + j)).toArray ∧ s' = { s with heap := h' } ∧ h'.objs.size = s.heap.objs.size + k ∧ (∀ c o, s.heap.get? c = some o → h'.get? c = some o) ∧ ∀ j l, j < k → ls[j]? = some l → h'.get? (s.heap.objs.size + j) = some (litO l))
    (fun b s' => ∃ h', b = ((List.range ls.length).map fun j => Value.ref (s.heap.objs.size + j)).toArray ∧ s' = { s with heap := h' } ∧ h'.objs.size = s.heap.objs.size + ls.length ∧ (∀ c o, s.heap.get? c = some o → h'.get? c = some o) ∧ ∀ j l, ls[j]? = some l → h'.get? (s.heap.objs.size + j) = some (litO l)) ?_ ?_ _ _ ?_) ?_ fun _ _ h => h)
  · rintro x rest b s' ⟨k, h', kl, er, rfl, rfl, sz, kk, its⟩
    have hk : k < ls.length := by
      rcases Nat.lt_or_ge k ls.length with h1 | h1
      · exact h1
      · rw [List.drop_of_length_le h1] at er
        cases er
    rw [List.drop_eq_getElem_cons hk, List.map_cons] at er
    injection er with ex er
    subst ex
    obtain ⟨xs, hxs⟩ := hl _ (List.getElem_mem hk)
    refine wpAny_bind (wpAny_holding (wpAny_pyIter_list (s := { s with heap := h' }) (hxs.at fun o e => kk _ o e) (wpAny_pure ?_)))
    refine ⟨k + 1, h'.push (litO ls[k]), hk, er, ?_, rfl, by rw [Heap.size_push, sz]; omega, fun c o e => Heap.get?_push_of_some _ (kk c o e), fun j l hj hl => ?_⟩
    · rw [List.range_succ, List.map_append]
      simp [sz]
    · by_cases e : j < k
      · exact Heap.get?_push_of_some _ (its j l e hl)
      · have : j = k := by omega
        subst this
        rw [List.getElem?_eq_getElem hk] at hl
        cases hl
        rw [← sz]
        exact Heap.get?_push_size _ rfl
  · rintro b s' ⟨k, h', kl, er, rfl, rfl, sz, kk, its⟩
    have ek : k = ls.length := by
      have := congrArg List.length er
      simp at this
      omega
    subst ek
    exact ⟨h', rfl, rfl, sz, kk, fun j l hl => its j l (List.getElem?_eq_some_iff.mp hl).1 hl⟩
  · exact ⟨0, s.heap, Nat.zero_le _, rfl, rfl, rfl, rfl, fun c o e => e, fun j l hj _ => absurd hj (Nat.not_lt_zero j)⟩
  · rintro b s' ⟨h', rfl, rfl, sz, kk, its⟩
    exact wpAny_pure (q h' sz kk its)
end
end PDY
namespace PDY
open PySem PySem.Spec PyProof.Rows L2 RZ PDZ
theorem tz (ls : List Value) : checkTypeCall "zip" ⟨ls, []⟩ = pure () := by kernel_rfl
theorem oz (obj : Value) (ls : List Value) : argsOk "object.__init__" ⟨obj :: ls, []⟩ := by unfold argsOk; kernel_rfl
theorem nz : ∀ ls : List Value, 1 ≤ ls.length → ls.length ≤ 12 → checkBuiltinCall "zip.__new__" ⟨.type "zip" :: ls, []⟩ = pure ()
  | [a0], _, _ => by kernel_rfl
  | [a0, a1], _, _ => by kernel_rfl
  | [a0, a1, a2], _, _ => by kernel_rfl
  | [a0, a1, a2, a3], _, _ => by kernel_rfl
  | [a0, a1, a2, a3, a4], _, _ => by kernel_rfl
  | [a0, a1, a2, a3, a4, a5], _, _ => by kernel_rfl
  | [a0, a1, a2, a3, a4, a5, a6], _, _ => by kernel_rfl
  | [a0, a1, a2, a3, a4, a5, a6, a7], _, _ => by kernel_rfl
  | [a0, a1, a2, a3, a4, a5, a6, a7, a8], _, _ => by kernel_rfl
  | [a0, a1, a2, a3, a4, a5, a6, a7, a8, a9], _, _ => by kernel_rfl
  | [a0, a1, a2, a3, a4, a5, a6, a7, a8, a9, a10], _, _ => by kernel_rfl
  | [a0, a1, a2, a3, a4, a5, a6, a7, a8, a9, a10, a11], _, _ => by kernel_rfl
  | [], h, _ => absurd h (by decide)
  | _ :: _ :: _ :: _ :: _ :: _ :: _ :: _ :: _ :: _ :: _ :: _ :: _ :: l, _, h => by simp at h
abbrev itsOf (b n : Nat) : List Value := (List.range n).map fun j => .ref (b + j)
abbrev zTup (h : Heap) (us : List Value) : Heap := h.push { cls := .type "tuple", data := .seq us.toArray }
abbrev zAll (h : Heap) (us : List Value) : Heap := (zTup (zTup h us) (us.map fun _ => .none)).push { cls := .type "zip", data := .fields #[.none, .bool false, .bool false, .ref h.objs.size, .ref (zTup h us).objs.size] }
theorem meets_zip_newN {ls : List Addr} (lz : ls.length ≤ 1000) :
    Meets (Builtin.«zip.__new__» ⟨.type "zip" :: ls.map Value.ref, []⟩) (fun _ R s => (∀ l ∈ ls, ∃ xs, s.heap.IsList l xs) ∧
      ∀ h', h'.objs.size = s.heap.objs.size + ls.length → (∀ c o, s.heap.get? c = some o → h'.get? c = some o) → (∀ j l, ls[j]? = some l → h'.get? (s.heap.objs.size + j) = some (litO l)) →
        R (.ok (.ret (.ref (zTup (zTup h' (itsOf s.heap.objs.size ls.length)) ((itsOf s.heap.objs.size ls.length).map fun _ => .none)).objs.size))) { s with heap := zAll h' (itsOf s.heap.objs.size ls.length) }) :=
  .of_wp fun prog w A R s h => by
    obtain ⟨hp, g, d, tk, os⟩ := s
    obtain ⟨hl, h⟩ := h
    have hsub := sub_zip
    have q1 : ∀ {A' : Around} {E : Value → Shared → Prop} {Q : List Value → Shared → Prop}, (∀ h', h'.objs.size = hp.objs.size + ls.length → (∀ c o, hp.get? c = some o → h'.get? c = some o) → (∀ j l, ls[j]? = some l → h'.get? (hp.objs.size + j) = some (litO l)) → Q (itsOf hp.objs.size ls.length) ⟨h', g, d, tk, os⟩) → wpAny (model prog w) A' (Builtin.SmallTypes.iterAll (ls.map Value.ref)) Q E ⟨hp, g, d, tk, os⟩ :=
      fun q => iter_lists (s := ⟨hp, g, d, tk, os⟩) hl lz fun h' a b c => q h' a b c
    wp_walk using q1
    intro h' a b c
    refine wpAny_bind (wpAny_newTuple ?_ (by simp; exact Nat.le_trans lz (by decide)))
    refine wpAny_bind (wpAny_newTuple ?_ (by simp; exact Nat.le_trans lz (by decide)))
    wp_walk
    exact ⟨_, rfl, h h' a b c⟩
section
variable {w : World} {prog : Program} {s : Shared} {A : Around} {E : Value → Shared → Prop}
/-- zip of n lists: its n + 3 new objects -/
theorem call_zipN {ls : List Addr} {Q : Value → Shared → Prop} (l1 : 1 ≤ ls.length) (l2 : ls.length ≤ 12) (hl : ∀ l ∈ ls, ∃ xs, s.heap.IsList l xs)
    (h : ∀ h', zo h' (s.heap.objs.size + ls.length + 2) (s.heap.objs.size + ls.length) (s.heap.objs.size + ls.length + 1) .none false → tupAt h' (s.heap.objs.size + ls.length) (itsOf s.heap.objs.size ls.length) →
      tupAt h' (s.heap.objs.size + ls.length + 1) ((itsOf s.heap.objs.size ls.length).map fun _ => .none) → (∀ j l, ls[j]? = some l → h'.get? (s.heap.objs.size + j) = some (litO l)) → (∀ c o, s.heap.get? c = some o → h'.get? c = some o) →
      Q (.ref (s.heap.objs.size + ls.length + 2)) { s with heap := h' }) :
    wpAny (model prog w) A (call (.type "zip") (ls.map Value.ref)) Q E s := by
  refine callType_new F.called_zip (by decide) (tz _) (nz _ (by simpa using l1) (by simpa using l2)) (fun obj => oz obj _) F.entry_zip_new (meets_zip_newN (ls := ls) (by omega)) ⟨hl, fun h' sz kk its => ?_⟩
  have z1 : (zTup h' (itsOf s.heap.objs.size ls.length)).objs.size = s.heap.objs.size + ls.length + 1 := by rw [Heap.size_push, sz]
  have z2 : (zTup (zTup h' (itsOf s.heap.objs.size ls.length)) ((itsOf s.heap.objs.size ls.length).map fun _ => .none)).objs.size = s.heap.objs.size + ls.length + 2 := by rw [Heap.size_push, z1]
  have gZ : (zAll h' (itsOf s.heap.objs.size ls.length)).get? (zTup (zTup h' (itsOf s.heap.objs.size ls.length)) ((itsOf s.heap.objs.size ls.length).map fun _ => .none)).objs.size = some _ := Heap.get?_push_size _ rfl
  have gO : (zAll h' (itsOf s.heap.objs.size ls.length)).get? (zTup h' (itsOf s.heap.objs.size ls.length)).objs.size = some _ := Heap.get?_push_of_some _ (Heap.get?_push_size _ rfl)
  have gT : (zAll h' (itsOf s.heap.objs.size ls.length)).get? h'.objs.size = some _ := Heap.get?_push_of_some _ (Heap.get?_push_of_some _ (Heap.get?_push_size _ rfl))
  have up : ∀ {c : Addr} {o : Obj}, h'.get? c = some o → (zAll h' (itsOf s.heap.objs.size ls.length)).get? c = some o := fun e => Heap.get?_push_of_some _ (Heap.get?_push_of_some _ (Heap.get?_push_of_some _ e))
  rw [z2, z1, sz] at gZ
  rw [z1] at gO
  rw [sz] at gT
  show _ ∧ _
  rw [z2]
  exact ⟨⟨_, gZ, rfl⟩, h _ gZ gT gO (fun j l e => up (its j l e)) fun c o e => up (kk c o e)⟩
end
end PDY
namespace PDY
open PySem PySem.Spec PyProof.Rows L2 RZ PDZ
structure ApartP (z TI TO : Addr) (P : List (Addr × Addr)) : Prop where
  TIz : TI ≠ z
  TOz : TO ≠ z
  TITO : TI ≠ TO
  iz : ∀ p ∈ P, p.1 ≠ z ∧ p.1 ≠ TI ∧ p.1 ≠ TO ∧ p.2 ≠ z ∧ p.2 ≠ TO
  nd : ∀ (j k : Nat) (p q : Addr × Addr), P[j]? = some p → P[k]? = some q → j ≠ k → p.1 ≠ q.1
  li : ∀ p ∈ P, ∀ q ∈ P, p.2 ≠ q.1
abbrev ofCell (c : Cell) : Addr × Addr := (c.it, c.l)
theorem ApartP.to {z TI TO : Addr} {P : List (Addr × Addr)} {R : List Cell} (D : ApartP z TI TO P) (h : R.map ofCell = P) : Apart z TI TO R where
  TIz := D.TIz
  TOz := D.TOz
  TITO := D.TITO
  iz := fun c hc => D.iz (ofCell c) (by rw [← h]; exact List.mem_map_of_mem hc)
  nd := fun j k c d hc hd n => D.nd j k (ofCell c) (ofCell d) (by rw [← h, List.getElem?_map, hc]; rfl) (by rw [← h, List.getElem?_map, hd]; rfl) n
  li := fun c hc d hd => D.li (ofCell c) (by rw [← h]; exact List.mem_map_of_mem hc) (ofCell d) (by rw [← h]; exact List.mem_map_of_mem hd)
section
variable {X : Cx} {pins : List (Addr × Obj)} {σ : L2.St} {H : Hp} {s : Shared}
theorem cellsOf (I : Inv X pins σ H s) {i : Nat} {f : Addr → List V} : ∀ P : List (Addr × Addr), (∀ p ∈ P, SqL X.K H p.2 (f p.2) ∧ i < (f p.2).length) →
    ∃ (R : List Cell) (vs : List V), R.map ofCell = P ∧ Vals vs (R.map (·.u)) ∧ (∀ c ∈ R, s.heap.IsList c.l c.xs ∧ c.xs[i]? = some c.u) ∧ vs.length = P.length ∧ ∀ (j : Nat) (p : Addr × Addr), P[j]? = some p → (f p.2)[i]? = vs[j]?
  | [], _ => ⟨[], [], rfl, .nil, fun c hc => (by cases hc), rfl, fun j p h => by simp at h⟩
  | p :: P, h => by
    obtain ⟨R, vs, e, r, hR, lv, hv⟩ := cellsOf I P fun q hq => h q (List.mem_cons_of_mem _ hq)
    obtain ⟨h1, h2⟩ := h p List.mem_cons_self
    obtain ⟨ux, relx, isx, _⟩ := I.list h1
    obtain ⟨u, hu, ru⟩ := relx.get (List.getElem?_eq_getElem h2)
    refine ⟨⟨p.1, p.2, ux.toArray, u⟩ :: R, (f p.2)[i] :: vs, by rw [List.map_cons, e], .cons ru r, fun c hc => ?_, by simp [lv], fun j q hq => ?_⟩
    · rcases List.mem_cons.mp hc with rfl | hc
      · exact ⟨isx.isList, by simpa using hu⟩
      · exact hR c hc
    · cases j with
      | zero =>
        simp at hq
        subst hq
        simpa using List.getElem?_eq_getElem h2
      | succ j => simpa using hv j q (by simpa using hq)
theorem cellsEnd (I : Inv X pins σ H s) {f : Addr → List V} : ∀ P : List (Addr × Addr), (∀ p ∈ P, SqL X.K H p.2 (f p.2)) →
    ∃ R : List Cell, R.map ofCell = P ∧ ∀ c ∈ R, s.heap.IsList c.l c.xs ∧ c.xs.size = (f c.l).length
  | [], _ => ⟨[], rfl, fun c hc => (by cases hc)⟩
  | p :: P, h => by
    obtain ⟨R, e, hR⟩ := cellsEnd I P fun q hq => h q (List.mem_cons_of_mem _ hq)
    obtain ⟨ux, relx, isx, _⟩ := I.list (h p List.mem_cons_self)
    refine ⟨⟨p.1, p.2, ux.toArray, .none⟩ :: R, by rw [List.map_cons, e], fun c hc => ?_⟩
    rcases List.mem_cons.mp hc with rfl | hc
    · exact ⟨isx.isList, by have := relx.length; simp; omega⟩
    · exact hR c hc
end
def ItzN (K : PySem.W.Frag) (ls : List Addr) : It where
  go := fun i H => ∃ f : Addr → List V, (∀ l ∈ ls, SqL K H l (f l) ∧ i < (f l).length) ∧ ls ≠ []
  yld := fun i H v H' => ∃ (t : Addr) (vs : List V), v = .ref t ∧ H t = none ∧ H' = upd H t (.tup vs) ∧ vs.length = ls.length ∧ ∀ (j : Nat) (l : Addr), ls[j]? = some l → ∀ xs, SqL K H l xs → xs[i]? = vs[j]?
  stop := fun i H => ∃ f : Addr → List V, (∀ l ∈ ls, SqL K H l (f l)) ∧ ∃ l r, ls = l :: r ∧ (f l).length = i
structure ZnSt (z TI TO : Addr) (P : List (Addr × Addr)) (i : Nat) (h : Heap) : Prop where
  ob : ∃ v f, (v = .none ∨ ∃ T : Addr, v = rawInt T) ∧ zo h z TI TO v f
  ti : tupAt h TI (P.map fun p => .ref p.1)
  to : ∃ us, us.length = P.length ∧ tupAt h TO us
  at_ : ∀ p ∈ P, h.IsListIter p.1 p.2 i
theorem ZnSt.has {z TI TO c : Addr} {P : List (Addr × Addr)} {i : Nat} {h : Heap} (st : ZnSt z TI TO P i h) (hc : c ∈ z :: TI :: TO :: P.map (·.1)) : ∃ o, h.get? c = some o ∧ ∀ v, o.data ≠ .cell v := by
  obtain ⟨v, f, _, ho⟩ := st.ob
  obtain ⟨us, _, hO⟩ := st.to
  simp only [List.mem_cons, List.mem_map] at hc
  rcases hc with rfl | rfl | rfl | ⟨p, hp, rfl⟩
  · exact ⟨_, ho, fun u y => by cases y⟩
  · exact ⟨_, st.ti, fun u y => by cases y⟩
  · exact ⟨_, hO, fun u y => by cases y⟩
  · obtain ⟨o, e, _, q⟩ := st.at_ p hp
    exact ⟨o, e, fun u y => by rw [q] at y; cases y⟩
theorem turn_zipNL {Pg : Program} {w : World} {K : PySem.W.Frag} {x : Str} {xp : Pos} {z TI TO : Addr} {P : List (Addr × Addr)} (D : ApartP z TI TO P) (n1 : P ≠ []) (n2 : P.length ≤ 12) :
    Turn Pg w K (.Name x xp) (ItzN K (P.map (·.2))) (z :: TI :: TO :: P.map (·.1)) z (ZnSt z TI TO P) where
  mem := List.mem_cons_self
  obj := fun i h st c hc => st.has hc
  keep := fun i h h' st k => by
    obtain ⟨v, f, hv, ho⟩ := st.ob
    obtain ⟨us, lu, hO⟩ := st.to
    exact ⟨⟨v, f, hv, k z (by simp) _ ho⟩, k TI (by simp) _ st.ti, ⟨us, lu, k TO (by simp) _ hO⟩, fun p hp => (st.at_ p hp).at fun o y => k p.1 (by simp; exact .inr (.inr (.inr ⟨_, hp⟩))) o y⟩
  item := by
    rintro X rfl rfl rfl calm i pins s σ H E I young st ⟨f, hf, _⟩
    obtain ⟨v, g, hv, ho⟩ := st.ob
    obtain ⟨us, lu, hO⟩ := st.to
    obtain ⟨R, vs, eR, rv, hR, lv, hvs⟩ := cellsOf I (i := i) (f := f) P fun p hp => hf _ (List.mem_map_of_mem hp)
    have D' := D.to eR
    have lR : R.length = P.length := by rw [← eR, List.length_map]
    have mR : ∀ c ∈ R, ofCell c ∈ P := fun c hc => by rw [← eR]; exact List.mem_map_of_mem hc
    have inside : ∀ c, c ∈ z :: TI :: TO :: P.map (·.1) → c ≠ s.heap.objs.size := fun c hc => by
      obtain ⟨o, e, _⟩ := st.has hc
      exact Nat.ne_of_lt (Heap.lt_size e)
    have eT : (P.map fun p => Value.ref p.1) = R.map fun c => .ref c.it := by rw [← eR, List.map_map]; rfl
    have tI := st.ti
    rw [eT] at tI
    unfold pyNext
    have ty : s.TypeIs (.ref z) "zip" := ⟨_, ho, rfl⟩
    refine wpAny_bind (wpAny_attempt (wpAny_callSpecial?_slot (name := "__next__") ty F.slot_zip_next (wpAny_call_entry F.slot_zip_next ty F.entry_zip_next
      (zip_itemN D' hv (fun e => n1 (by rw [← eR, e]; rfl)) ho tI hO (by omega) (by omega) (fun j c hc => ⟨by rw [if_neg (Nat.not_lt_zero j)]; exact st.at_ _ (mR c (List.mem_of_getElem? hc)), (hR c (List.mem_of_getElem? hc)).1⟩) (fun c hc => (hR c hc).2)
        fun h' v' f' us' hv' ho' hO' lu' it' pr _ kk => wpAny_pure ⟨_, rfl, wpAny_pure ?_⟩) (F.args_zip_next_1 _))))
    have J : Inv X pins σ (upd H s.heap.objs.size (.tup vs)) { s with heap := h' } :=
      I.turnedNew (t' := s.toks) (ch := z :: TI :: TO :: P.map (·.1)) (fun c o n e => kk c o (fun y => n (by simp [y])) (fun y => n (by simp [y])) (fun d hd y => n (by simp; exact .inr (.inr (.inr ⟨d.l, by rw [y]; exact mR d hd⟩)))) e) young (Nat.le_refl _)
        ⟨by rw [lv]; exact Nat.le_trans n2 (by decide), R.map (·.u), rv, ⟨_, pr, rfl, _, rfl⟩⟩
    refine ⟨.ref s.heap.objs.size, _, J, rfl, ⟨_, vs, rfl, I.hok.fresh (Nat.le_refl _), rfl, by simpa using lv, fun j l hl xs hxs => ?_⟩, ⟨⟨v', f', hv', ho'⟩, kk TI _ D.TIz D.TITO (fun c hc => (D'.iz c hc).2.1.symm) st.ti, ⟨us', by omega, hO'⟩, fun p hp => ?_⟩, fun c hc => (upd_ne (inside c hc)).trans (young c hc).1⟩
    · rw [List.getElem?_map] at hl
      cases hp : P[j]? with
      | none =>
        rw [hp] at hl
        cases hl
      | some p =>
        rw [hp] at hl
        cases hl
        rw [I.list_inj hxs (hf _ (List.mem_map_of_mem (List.mem_of_getElem? hp))).1]
        exact hvs j p hp
    · rw [← eR] at hp
      obtain ⟨c, hc, rfl⟩ := List.mem_map.mp hp
      obtain ⟨j, hj⟩ := List.getElem?_of_mem hc
      have := (it' j c hj).1
      rw [if_pos (List.getElem?_eq_some_iff.mp hj).1] at this
      exact this
  done := by
    rintro X rfl rfl rfl calm i pins s σ H E I young st ⟨f, hf, l, r, el, li⟩
    obtain ⟨v, g, hv, ho⟩ := st.ob
    obtain ⟨R, eR, hR⟩ := cellsEnd I (f := f) P fun p hp => hf _ (List.mem_map_of_mem hp)
    have D' := D.to eR
    have mR : ∀ c ∈ R, ofCell c ∈ P := fun c hc => by rw [← eR]; exact List.mem_map_of_mem hc
    have eT : (P.map fun p => Value.ref p.1) = R.map fun c => .ref c.it := by rw [← eR, List.map_map]; rfl
    have tI := st.ti
    rw [eT] at tI
    cases R with
    | nil => exact absurd (by rw [← eR]; rfl) n1
    | cons c0 R =>
      have e0 : c0.l = l := by
        rw [← eR] at el
        injection el
      have no : c0.xs[i]? = none := by
        have := (hR c0 List.mem_cons_self).2
        rw [e0, li] at this
        rw [Array.getElem?_eq_none_iff]
        omega
      have ty : s.TypeIs (.ref z) "zip" := ⟨_, ho, rfl⟩
      unfold pyNext
      refine wpAny_bind (wpAny_attempt (wpAny_callSpecial?_slot (name := "__next__") ty F.slot_zip_next (wpAny_call_entry F.slot_zip_next ty F.entry_zip_next
        (zip_endN (us := []) (I.ok.hd calm) D' hv ho tI (fun j c hc => ⟨by rw [if_neg (Nat.not_lt_zero j)]; exact st.at_ _ (mR c (List.mem_of_getElem? hc)), (hR c (List.mem_of_getElem? hc)).1⟩) no fun h' e kk he => ?_) (F.args_zip_next_1 _))))
      obtain ⟨o, g1, g2⟩ := he
      refine wpAny_bind (wpAny_isInstance (T := "StopIteration") (b := true) ⟨o, g1, g2⟩ isSubtype_stop (wpAny_pure ⟨rfl, ?_⟩))
      exact I.turnedL (t' := s.toks) (ch := z :: TI :: TO :: P.map (·.1)) (fun c o n e => kk c o (fun y => n (by simp [y])) (fun y => n (by simp [y])) (fun d hd y => n (by simp; exact .inr (.inr (.inr ⟨d.l, by rw [y]; exact mR d hd⟩)))) e) young
  self := fun Ar n sh Qv Ev st h => by
    obtain ⟨v, f, _, ho⟩ := st.ob
    have ty : sh.TypeIs (.ref z) "zip" := ⟨_, ho, rfl⟩
    exact wpAny_pyIter_slot ty F.slot_zip_iter (wpAny_call_entry F.slot_zip_iter ty F.entry_zip_iter (wpAny_pure ⟨_, rfl, "zip", _, ty, F.slot_zip_next.lookup, h⟩) (F.args_zip_iter_1 _))
end PDY
namespace PDY
open PySem PySem.Spec PyProof.Rows L2 RZ PDZ
theorem vals_refs : ∀ {ls : List Addr} {us : List Value}, Vals (ls.map V.ref) us → us = ls.map Value.ref
  | [], _, .nil => rfl
  | _ :: _, _, .cons r t => by
    have e : _ = Value.ref _ := r
    rw [vals_refs t, e, List.map_cons]
def iZipS (K : PySem.W.Frag) (te : TE) : TI := fun σ H R => te σ H fun v H1 => ∃ (a : Addr) (ls : List Addr), v = .ref a ∧ SqL K H1 a (ls.map V.ref) ∧ ls ≠ [] ∧ ls.length ≤ 12 ∧ (∀ l ∈ ls, ∃ xs, SqL K H1 l xs) ∧ R (ItzN K ls) H1
/-- for x in zip(*rows) -/
theorem pi_zipSK {X : Cx} {K : PySem.W.Frag} {e : Expr} {te : TE} {p pos sp xp : Pos} {x : Str} (hK : X.K = K) (hg : Gl X "zip") (hm : X.mg "zip" = none) (he : PE X e te)
    (hs : starEach [.Starred e sp] X.env = [(true, eval e X.env)] := by rfl) : PI X (.Name x xp) (.Call (.Name "zip" p) [.Starred e sp] [] pos) (iZipS K te) := by
  subst hK
  constructor
  intro pins s σ H R I wish
  refine Call_ (ld_blt I hg hm PyProof.Rows.boot_zip ?_)
  rw [hs]
  refine PySem.W.ks_call (P := fun _ => True) rfl (fun h _ => ⟨.machine, .inr (.inl rfl), fun A Q E s k q => wpAny_pure q⟩) (PySem.W.ks_lone (thn (he.run pins s σ H _ I wish) ?_))
  rintro u s1 ⟨v, H1, I1, rel, a, ls, rfl, sa, n1, n2, hl, q⟩
  obtain rfl : u = Value.ref a := rel
  refine StX.star_lst I1 sa fun us s2 I2 rv => ⟨trivial, ?_⟩
  rw [vals_refs rv]
  have hl2 : ∀ l ∈ ls, ∃ xs, s2.heap.IsList l xs := fun l hm => by
    obtain ⟨xs, hx⟩ := hl l hm
    obtain ⟨ux, _, isx, _⟩ := I2.list hx
    exact ⟨_, isx.isList⟩
  have lt : ∀ l ∈ ls, l < s2.heap.objs.size := fun l hm => by
    obtain ⟨xs, o, ho, _⟩ := hl2 l hm
    exact Heap.lt_size ho
  have pos : 1 ≤ ls.length := List.length_pos_iff.mpr n1
  refine call_zipN (ls := ls) pos n2 hl2 fun h' zp tI tO its kk => ?_
  have hP : (ls.mapIdx fun j l => (s2.heap.objs.size + j, l)).map (·.2) = ls := by
    apply List.ext_getElem?
    intro j
    simp
    cases ls[j]? <;> rfl
  have g : ∀ (j : Nat) (p : Addr × Addr), (ls.mapIdx fun j l => (s2.heap.objs.size + j, l))[j]? = some p → p.1 = s2.heap.objs.size + j ∧ ls[j]? = some p.2 := fun j p hp => by
    rw [List.getElem?_mapIdx] at hp
    cases hj : ls[j]? with
    | none =>
      rw [hj] at hp
      cases hp
    | some l =>
      rw [hj] at hp
      cases hp
      exact ⟨rfl, rfl⟩
  have gm : ∀ p, p ∈ (ls.mapIdx fun j l => (s2.heap.objs.size + j, l)) → ∃ j, j < ls.length ∧ p.1 = s2.heap.objs.size + j ∧ ls[j]? = some p.2 := fun p hp => by
    obtain ⟨j, hj⟩ := List.getElem?_of_mem hp
    obtain ⟨a, b⟩ := g j p hj
    exact ⟨j, (List.getElem?_eq_some_iff.mp b).1, a, b⟩
  generalize hN : s2.heap.objs.size = N at *
  generalize hPP : (ls.mapIdx fun j l => (N + j, l)) = P at *
  have lP : P.length = ls.length := by rw [← hP, List.length_map]
  have q9 : ∀ a b : Nat, a < N → N ≤ b → a ≠ b := fun a b h1 h2 => by omega
  have D : ApartP (N + ls.length + 2) (N + ls.length) (N + ls.length + 1) P :=
    { TIz := Nat.ne_of_lt (by omega), TOz := Nat.ne_of_lt (by omega), TITO := Nat.ne_of_lt (by omega)
      iz := fun p hp => by
        obtain ⟨j, jl, e1, e2⟩ := gm p hp
        have := lt _ (List.mem_of_getElem? e2)
        exact ⟨Nat.ne_of_lt (by omega), Nat.ne_of_lt (by omega), Nat.ne_of_lt (by omega), q9 _ _ (lt _ (List.mem_of_getElem? e2)) (by omega), q9 _ _ (lt _ (List.mem_of_getElem? e2)) (by omega)⟩
      nd := fun j k p q hp hq n => by
        rw [(g j p hp).1, (g k q hq).1]
        exact fun e => n (Nat.add_left_cancel e)
      li := fun p hp q hq => by
        obtain ⟨j, jl, e1, e2⟩ := gm p hp
        obtain ⟨k, kl, e3, e4⟩ := gm q hq
        have := lt _ (List.mem_of_getElem? e2)
        exact q9 _ _ (lt _ (List.mem_of_getElem? e2)) (by omega) }
  have J : Inv X pins σ H1 { s2 with heap := h' } := I2.kept (t' := s2.toks) kk
  have T := turn_zipNL (Pg := X.prog) (w := X.w) (K := X.K) (x := x) (xp := xp) D (fun e => n1 (by rw [← hP, e]; rfl)) (by omega)
  rw [hP] at T
  have eI : itsOf N ls.length = P.map fun p => .ref p.1 := by
    apply List.ext_getElem?
    intro j
    rw [← hPP]
    simp only [itsOf, List.getElem?_map, List.getElem?_mapIdx]
    rcases Nat.lt_or_ge j ls.length with h1 | h1
    · rw [List.getElem?_range h1, List.getElem?_eq_getElem h1]
      rfl
    · rw [List.getElem?_eq_none h1, List.getElem?_eq_none (by simpa using h1)]
      rfl
  have st : ZnSt (N + ls.length + 2) (N + ls.length) (N + ls.length + 1) P 0 h' :=
    ⟨⟨.none, false, .inl rfl, zp⟩, by rw [← eI]; exact tI, ⟨_, by simp [itsOf, lP], tO⟩, fun p hp => by
      obtain ⟨j, jl, e1, e2⟩ := gm p hp
      exact ⟨litO p.2, by rw [e1]; exact its j _ e2, rfl, rfl⟩⟩
  refine T.self _ 0 _ _ _ st ⟨_, _, _, _, H1, rfl, J, T, st, fun c hc => ?_, q⟩
  have le : N ≤ c := by
    simp only [List.mem_cons, List.mem_map] at hc
    rcases hc with rfl | rfl | rfl | ⟨p, hp, rfl⟩
    · omega
    · omega
    · omega
    · obtain ⟨j, jl, e1, e2⟩ := gm p hp
      omega
  rw [← hN] at le
  exact I2.fpOk le (I2.hok.fresh le)
end PDY
namespace PD
open PySem PySem.Spec PyProof.Rows L2 PDY
theorem Reps.of_get {W : Wd} {M : Addr → Prop} {H : Hp} : ∀ {vs : List V} {ds : List D}, vs.length = ds.length → (∀ (j : Nat) (v : V) (d : D), vs[j]? = some v → ds[j]? = some d → Rep W M H v d) → Reps W M H vs ds
  | [], [], _, _ => .nil
  | [], _ :: _, h, _ => by cases h
  | _ :: _, [], h, _ => by cases h
  | v :: vs, d :: ds, h, g => .cons (g 0 v d rfl rfl) (Reps.of_get (by simpa using h) fun j x y a b => g (j + 1) x y (by simpa using a) (by simpa using b))
theorem Reps.lists {W : Wd} {M : Addr → Prop} {H : Hp} : ∀ {vs : List V} {rows : List (List D)}, Reps W M H vs (rows.map .lst) → ∃ ls : List Addr, vs = ls.map V.ref ∧ ls.length = rows.length ∧
    ∀ (j : Nat) (l : Addr), ls[j]? = some l → ¬ M l ∧ ∃ xs row, rows[j]? = some row ∧ H l = some (.lst xs) ∧ Reps W M H xs row
  | [], [], _ => ⟨[], rfl, rfl, fun j l h => by simp at h⟩
  | _, r :: rows, .cons (.lst (a := a) na h1 h2) t => by
    obtain ⟨ls, e, ll, g⟩ := Reps.lists t
    subst e
    refine ⟨a :: ls, rfl, by simp [ll], fun j l hl => ?_⟩
    cases j with
    | zero =>
      simp at hl
      subst hl
      exact ⟨na, _, r, rfl, h1, h2⟩
    | succ j => simpa using g j l (by simpa using hl)
def colD (rows : List (List D)) (n : Nat) : List D := (List.range n).map fun i => .tup (rows.map fun r => r.getD i .non)
theorem colD_length (rows : List (List D)) (n : Nat) : (colD rows n).length = n := by simp [colD]
theorem colD_get {rows : List (List D)} {n i : Nat} {d : D} (h : (colD rows n)[i]? = some d) : i < n ∧ d = .tup (rows.map fun r => r.getD i .non) := by
  unfold colD at h
  rw [List.getElem?_map] at h
  rcases Nat.lt_or_ge i n with h1 | h1
  · rw [List.getElem?_range h1] at h
    exact ⟨h1, (Option.some.inj h).symm⟩
  · rw [List.getElem?_eq_none (by simpa using h1)] at h
    cases h
section
variable {W : Wd} {δ : DS}
theorem src_zipS {M : Addr → Prop} {H1 : Hp} {ls : List Addr} {rows : List (List D)} {n : Nat} (w : Wf W M H1) (hls : ls.length = rows.length) (n1 : rows ≠ [])
    (hr : ∀ (j : Nat) (l : Addr), ls[j]? = some l → ¬ M l ∧ ∃ xs row, rows[j]? = some row ∧ H1 l = some (.lst xs) ∧ Reps W M H1 xs row) (hn : ∀ r ∈ rows, r.length = n) : Src W M (ItzN W.K ls) H1 (colD rows n) := fun M' hm hn' i H2 k g => by
  have wg : Wg W M' H1 := ⟨w.g, fun b e => hm b (w.sm b e)⟩
  have wg2 : Wg W M' H2 := ⟨g, fun b e => hm b (w.sm b e)⟩
  obtain ⟨f, ef⟩ : ∃ f : Addr → List V, ∀ l xs, H1 l = some (.lst xs) → f l = xs := ⟨fun l => match H1 l with | some (.lst xs) => xs | _ => [], fun l xs e => by simp only [e]⟩
  have F : ∀ (j : Nat) (l : Addr), ls[j]? = some l → SqL W.K H2 l (f l) ∧ ∃ row, rows[j]? = some row ∧ Reps W M' H2 (f l) row := fun j l hl => by
    obtain ⟨na, xs, row, h1, h2, h3⟩ := hr j l hl
    rw [ef l xs h2]
    exact ⟨.inl (.inl (rdL_keepM w.wg k na h2)), row, h1, (h3.more hn').keepM wg (k.mono hm)⟩
  have G : ∀ l ∈ ls, SqL W.K H2 l (f l) ∧ (f l).length = n := fun l hl => by
    obtain ⟨j, hj⟩ := List.getElem?_of_mem hl
    obtain ⟨h1, row, h2, h3⟩ := F j l hj
    exact ⟨h1, by rw [h3.length]; exact hn _ (List.mem_of_getElem? h2)⟩
  have ne : ls ≠ [] := fun e => by
    rw [e] at hls
    exact n1 (List.length_eq_zero_iff.mp hls.symm)
  refine ⟨fun hi => ⟨f, fun l hl => (G l hl).1, ?_⟩, fun d hd => ?_⟩
  · rw [colD_length] at hi
    cases ls with
    | nil => exact absurd rfl ne
    | cons l r => exact ⟨l, r, rfl, (G l List.mem_cons_self).2.trans (by omega)⟩
  · obtain ⟨hi, rfl⟩ := colD_get hd
    refine ⟨⟨f, fun l hl => ⟨(G l hl).1, by rw [(G l hl).2]; exact hi⟩, ne⟩, fun z H3 yy => ?_⟩
    obtain ⟨T, vs, rfl, hT, rfl, lv, hv⟩ := yy
    have kn : Keep W H2 (upd H2 T (.tup vs)) := Keep.new hT
    refine ⟨g.new hT, kn, .tup (SqT.of upd_same) (Reps.of_get (by simp [lv, hls]) fun j v d h1 h2 => ?_)⟩
    have jl : j < ls.length := by rw [← lv]; exact (List.getElem?_eq_some_iff.mp h1).1
    have e1 := List.getElem?_eq_getElem jl
    obtain ⟨s1, row, h3, h4⟩ := F j _ e1
    have e2 := hv j _ e1 _ s1
    rw [h1] at e2
    obtain ⟨x, hx, rx⟩ := h4.got e2
    rw [List.getElem?_map, h3] at h2
    cases h2
    show Rep W M' _ v (row.getD i .non)
    rw [List.getD_eq_getElem?_getD, hx]
    exact rx.keepG wg2 kn
theorem it_zipS {P : List D → Prop} {te : TE} (h : EvD W te δ fun x => ∃ (rows : List (List D)) (n : Nat), x = .lst (rows.map .lst) ∧ rows ≠ [] ∧ rows.length ≤ 12 ∧ (∀ r ∈ rows, r.length = n) ∧ P (colD rows n)) : IterD W (iZipS W.K te) δ P := fun M σ H p R q => h M σ H p _ fun v d H1 g1 k1 r1 h1 => by
  obtain ⟨rows, n, rfl, n1, n2, hn, hP⟩ := h1
  cases r1 with
  | lst na hs hr =>
    obtain ⟨ls, rfl, ll, g⟩ := hr.lists
    exact ⟨_, ls, rfl, .inl (.inl hs), fun e => n1 (List.length_eq_zero_iff.mp (by rw [← ll, e]; rfl)), by omega, fun l hl => by
      obtain ⟨j, hj⟩ := List.getElem?_of_mem hl
      obtain ⟨_, xs, _, _, h2, _⟩ := g j l hj
      exact ⟨xs, .inl (.inl h2)⟩, q _ H1 _ g1 k1 hP (src_zipS (p.wf.next g1 k1) ll n1 g hn)⟩
end
end PD
namespace PD
open PySem PySem.Spec PyProof.Rows L2
theorem lookup_no {α : Type} {m : Str} : ∀ {fs : List (Str × α)}, m ∉ fs.map (·.1) → fs.lookup m = none
  | [], _ => rfl
  | (a, b) :: fs, h => by
    simp only [List.map_cons, List.mem_cons, not_or] at h
    have e : (m == a) = false := by simpa using h.1
    rw [List.lookup_cons, e]
    exact lookup_no h.2
theorem ev_meth {W : Wd} {δ : DS} {C : Addr} {m : Str} {F : FD} {E : XK} {t0 : TE} {ta : TA} {P : D → Prop}
    (h : EvD W t0 δ fun d0 => ∃ ns ds, d0 = .ins C ns ds ∧ m ∉ ns ∧ EvA W ta δ fun es => F (d0 :: es) P) : EvD W (tMeth C m (spD W.K F) [] E t0 ta) δ P := fun M σ H p Q q =>
  h M σ H p _ fun v d H1 g1 k1 r1 h1 => by
    obtain ⟨ns, ds, rfl, nm, ha⟩ := h1
    have r0 := r1
    cases r1 with
    | ins nM hH e r =>
      refine ⟨_, _, _, rfl, hH, lookup_no (by rw [e]; exact nm), ?_⟩
      exact ha M σ H1 (p.next g1 k1) _ fun vs es H2 g2 k2 r2 f2 => ⟨W, M, _ :: es, P, rfl, (p.next g1 k1).wf.next g2 k2, .cons (r0.keep (p.next g1 k1).wf k2) (by rw [List.append_nil]; exact r2), f2, fun v d H3 g3 k3 r3 h3 => q v d H3 g3 (k1.trans (k2.trans k3)) r3 h3⟩
end PD
namespace PD
open PySem PySem.Spec PyProof.Rows L2
def meB (K : PySem.W.Frag) (C f : Addr) (m : Str) : Bool := decide (PySem.W.findIn K (.ref C) m = some (some (.ref f))) && PySem.W.isFn K (.ref f) && PySem.W.keepIn K (.ref f)
theorem me_of {K : PySem.W.Frag} {C f : Addr} {m : Str} (h : meB K C f m = true) : Meth K C m f := by
  unfold meB at h
  simp only [Bool.and_eq_true, decide_eq_true_eq] at h
  exact ⟨h.1.1, h.1.2, h.2⟩
end PD
namespace PD
open PySem PySem.Spec PyProof.Rows L2
/-- an __init__ of one row: self.f = e -/
theorem init_body1 {K : PySem.W.Frag} {F : FI} {vs : List V} {H : Hp} {Q : VK} {E : XK} {N : List Str} {te : TE} {f : Str} (h : spInit K F vs H Q E)
    (hb : ∀ W C (x : Addr) ds P X, W.K = K → F C ds P X → Cls K C ∧ NoAttr K C f ∧ EvD W te (startD N.length (.obj x :: ds)) fun y => P [f] [y]) :
    sFld K (tVar 0) te f { nx := fun _ H' => Q .non H', rt := Q } (L2.start N vs) H := by
  obtain ⟨W, M, x, dx, C, ws, ds, P, X, rfl, e, w, mx, ns, hx, r, hF, q, _⟩ := h
  obtain ⟨c1, c2, hS⟩ := hb W C x ds P X e hF
  subst e
  have r0 : Reps W M H (.ref x :: ws) (.obj x :: ds) := .cons (.obj x) r
  have sl := start_slots N r0
  have l0 : 0 < N.length ∨ N.length = 0 := by omega
  refine hS M _ H ⟨w, sl⟩ _ fun v y H1 g1 k1 r1 h1 => ?_
  have hx' : H1 x = some (.ins C dx []) := k1 x _ ns hx
  refine ⟨.ref x, rfl, x, C, dx, [], rfl, hx', c1, c2, by decide, ?_⟩
  show Q .non (upd H1 x (.ins C dx [(f, v)]))
  have isL : ∀ s, W.s = some s → s ≠ x := fun s hs e => ns (by rw [hs, e])
  have gg : StOk W (upd H1 x (.ins C dx [(f, v)])) := fun s hs => by
    obtain ⟨n1, i1, d1, m1, a1, a2, a3, a4⟩ := g1 s hs
    refine ⟨n1, i1, d1, m1, by rw [upd_ne (isL s hs)]; exact a1, a2, ?_, a4⟩
    rw [upd_ne (ne_of a3 hx' (by intro z; cases z))]
    exact a3
  exact q _ [(f, v)] [y] gg (fun a o na nsa ho => by rw [upd_ne na]; exact k1 a o nsa ho) upd_same (.cons (r1.upd (rdT_ins hx') mx) .nil) h1
end PD
namespace PD
open PySem PySem.Spec PyProof.Rows L2 WarM
def rowB (r : List Bool) : D := .lst (r.map .bl)
def flD (M : BM) : D := .lst (M.map rowB)
/-- an object of the class of flags -/
def cellsD (C : Addr) : D := .ins C ["nought"] [.bl false]
theorem flD_lists (M : BM) : flD M = .lst ((M.map fun r => r.map D.bl).map .lst) := by
  unfold flD
  rw [List.map_map]
  rfl
theorem zipD_bl {r c : List Bool} {i : Nat} {d : D} (h : (zipD (r.map .bl) (c.map .bl))[i]? = some d) : ∃ a b, (r.zip c)[i]? = some (a, b) ∧ r[i]? = some a ∧ c[i]? = some b ∧ d = .tup [.bl a, .bl b] := by
  obtain ⟨x, y, hx, hy, rfl⟩ := zipD_get h
  rw [List.getElem?_map] at hx hy
  cases ha : r[i]? with
  | none => rw [ha] at hx; cases hx
  | some a =>
    cases hb : c[i]? with
    | none => rw [hb] at hy; cases hy
    | some b =>
      rw [ha] at hx
      rw [hb] at hy
      cases hx
      cases hy
      exact ⟨a, b, by rw [List.getElem?_zip_eq_some]; exact ⟨ha, hb⟩, rfl, rfl, rfl⟩
theorem zipD_len {x y : List D} : (zipD x y).length = min x.length y.length := by
  unfold zipD
  rw [List.length_zipWith]
theorem colD_bl {M : BM} {c : Nat} (d : ∀ r ∈ M, r.length = c) : colD (M.map fun r => r.map D.bl) c = (colsB M c).map fun x => .tup (x.map .bl) := by
  unfold colD colsB
  rw [List.map_map]
  apply List.map_congr_left
  intro j hj
  show D.tup _ = .tup _
  rw [List.map_map, List.map_map]
  congr 1
  apply List.map_congr_left
  intro r hr
  have h : j < r.length := by rw [d r hr]; exact List.mem_range.mp hj
  show (r.map D.bl).getD j .non = .bl (r.getD j false)
  rw [List.getD_eq_getElem?_getD, List.getElem?_map, List.getD_eq_getElem?_getD, List.getElem?_eq_getElem h]
  rfl
section
variable {W : Wd} {δ : DS} {P : D → Prop}
theorem rd_neF {a : Bool} (h : P (.bl a)) : RD W (rNeD W.K) (.bl a) (.bl false) P := by
  cases a
  · exact rd_neD (by decide +kernel) (by decide +kernel) h
  · exact rd_neD (by decide +kernel) (by decide +kernel) h
theorem rd_eqF {a : Bool} (h : P (.bl (!a))) : RD W (rEqD W.K) (.bl a) (.bl false) P := by
  cases a
  · exact rd_eqD (by decide +kernel) (by decide +kernel) h
  · exact rd_eqD (by decide +kernel) (by decide +kernel) h
/-- [g(x) for x in xs], x by what it stands for -/
theorem ev_lcM {α : Type} {wi : TI} {gt : TG} {te : TE} {vs : List Nat} (xs : List α) (f g : α → D) (h : IterD W wi δ fun ds => ds = xs.map f ∧ xs.length ≤ 100000 ∧
    (∀ (i : Nat) (x : α), xs[i]? = some x → ∃ js, (∀ j ∈ js, j ∈ vs) ∧ GD W gt (f x) (wipeD δ vs) js fun δ2 => EvD W te δ2 fun z => z = g x) ∧ P (.lst (xs.map g))) : EvD W (tLc wi gt tYes te vs) δ P :=
  ev_lcL fun M σ H p R q => h M σ H p R fun J H1 ds g1 k1 ⟨e, hl, hs, hP⟩ => q J H1 ds g1 k1 ⟨by rw [e, List.length_map]; exact hl, xs.map g, by rw [e, List.length_map, List.length_map], fun i d y hd hy => by
    subst e
    rw [List.getElem?_map] at hd hy
    cases hx : xs[i]? with
    | none => rw [hx] at hd; cases hd
    | some x =>
      rw [hx] at hd hy
      cases hd
      cases hy
      exact hs i x hx, hP⟩
/-- the same over two lists, pair by pair -/
theorem zipD_map {α β : Type} (xs : List α) (ys : List β) (f : α → D) (g : β → D) : zipD (xs.map f) (ys.map g) = (xs.zip ys).map fun p => .tup [f p.1, g p.2] := by
  unfold zipD
  rw [List.zipWith_map, List.zip, List.map_zipWith]
end
end PD
namespace PD
open PySem PySem.Spec PyProof.Rows L2 WarM
/-- what a step makes of flags that have its sizes; G: the flags by their numbers -/
inductive MkB (G : Nat → Option BM) : Str → List Int → BM → Prop
  | plus {a b r c : Nat} {A B : BM} : G a = some A → G b = some B → DimB A r c → DimB B r c → r ≤ 12 → c ≤ 12 → MkB G "plus" [(a : Int), (b : Int)] (plusL A B)
  | times {a b r m c : Nat} {A B : BM} : G a = some A → G b = some B → DimB A r m → DimB B m c → 1 ≤ m → r ≤ 12 → m ≤ 12 → c ≤ 12 → MkB G "times" [(a : Int), (b : Int)] (timesL A B)
  | turned {a r c : Nat} {A : BM} : G a = some A → DimB A r c → 1 ≤ r → r ≤ 12 → c ≤ 12 → MkB G "turned" [(a : Int)] (colsB A c)
  | beside {a b r m c : Nat} {A B : BM} : G a = some A → G b = some B → DimB A r m → DimB B r c → r ≤ 12 → m ≤ 12 → c ≤ 12 → MkB G "beside" [(a : Int), (b : Int)] (List.zipWith (· ++ ·) A B)
  | above {a b r m c : Nat} {A B : BM} : G a = some A → G b = some B → DimB A r c → DimB B m c → r ≤ 12 → m ≤ 12 → c ≤ 12 → MkB G "above" [(a : Int), (b : Int)] (A ++ B)
  | star {a n : Nat} {A : BM} : G a = some A → DimB A n n → 1 ≤ n → n ≤ 12 → MkB G "star" [(a : Int)] (starL A).1
  | piece {a i j h w r c : Nat} {A : BM} : G a = some A → DimB A r c → i + h ≤ r → j + w ≤ c → 1 ≤ h → 1 ≤ w → r ≤ 12 → c ≤ 12 → MkB G "piece" [(a : Int), (i : Int), (j : Int), (h : Int), (w : Int)] (((A.drop i).take h).map fun row => (row.drop j).take w)
/-- the flags that a list of data holds where they are wanted -/
def AtG (G : Nat → Option BM) (gs : List D) : Prop := ∀ a A, G a = some A → gs[a]? = some (flD A)
theorem cutM {α : Type} (xs : List α) (f : α → D) (a b : Nat) : cutD (xs.map f) (some (a : Int)) (some ((a : Int) + (b : Int))) = ((xs.drop a).take b).map f := by
  have e : ((a : Int) + (b : Int)) = ((a + b : Nat) : Int) := by omega
  rw [e, cutD_mid, Nat.add_sub_cancel_left, List.map_take, List.map_drop]
end PD
namespace PD
open PySem PySem.Spec PyProof.Rows L2 WarM
theorem rowB_at {r : List Bool} {j : Nat} (h : j < r.length) : (r.map D.bl)[j]? = some (.bl (r.getD j false)) := by
  rw [List.getElem?_map, List.getElem?_eq_getElem h, List.getD_eq_getElem?_getD, List.getElem?_eq_getElem h]
  rfl
theorem flD_at {M : BM} {i : Nat} (h : i < M.length) : (M.map rowB)[i]? = some (rowB (M.getD i [])) := by
  rw [List.getElem?_map, List.getElem?_eq_getElem h, List.getD_eq_getElem?_getD, List.getElem?_eq_getElem h]
  rfl
theorem range_get {n i x : Nat} (h : (List.range n)[i]? = some x) : i < n ∧ x = i := by
  have h1 := (List.getElem?_eq_some_iff.mp h).1
  rw [List.length_range] at h1
  rw [List.getElem?_range h1] at h
  exact ⟨h1, (Option.some.inj h).symm⟩
end PD
namespace PD
open PySem PySem.Spec PyProof.Rows L2 WarM
end PD
namespace PD
open PySem PySem.Spec PyProof.Rows L2 WarM
theorem enumM (ds : List D) : enumD ds = (List.range ds.length).map fun (k : Nat) => D.tup [.int (k : Int), ds.getD k .non] := by
  apply List.ext_getElem
  · simp [enumD]
  · intro i h1 h2
    have h : i < ds.length := by simpa using h2
    simp [enumD, List.getD_eq_getElem?_getD, List.getElem?_eq_getElem h]
/-- which cells of a row have a unit -/
def thereR (row : List D) : List Bool := row.map fun u => !u.isNon
theorem thereM (row : List D) : ((List.range row.length).map fun k => D.bl (!(row.getD k .non).isNon)) = (thereR row).map .bl := by
  apply List.ext_getElem
  · simp [thereR]
  · intro i h1 h2
    have h : i < row.length := by simpa [thereR] using h2
    simp [thereR, List.getD_eq_getElem?_getD, List.getElem?_eq_getElem h]
end PD
namespace PD
open PySem PySem.Spec PyProof.Rows L2 WarM
/-- an object made by an __init__ that lets nothing out -/
theorem ev_makeE {W : Wd} {δ : DS} {F : FI} {C : Addr} {E : XK} {ta : TA} {P : D → Prop} (h : EvA W ta δ fun ds => F C ds (fun ns es => P (.ins C ns es)) fun _ => False) : EvD W (tMake C (spInit W.K F) [] E ta) δ P := fun M σ H p Q q =>
  h M σ H p _ fun vs ds H1 g1 k1 r1 h1 => make_core (p.wf.next g1 k1) r1 h1 (fun v d H2 g2 k2 r2 h2 => q v d H2 g2 (k1.trans k2) r2 h2) fun _ _ _ _ _ _ _ z => z.elim
end PD
namespace PD
open PySem PySem.Spec PyProof.Rows L2 WarM
section
variable {W : Wd} {δ : DS}
/-- from hi down to above lo -/
def downD (hi : Int) (n : Nat) : List D := (List.range n).map fun (k : Nat) => .int (hi - (k : Int))
theorem downD_length (hi : Int) (n : Nat) : (downD hi n).length = n := by simp [downD]
theorem downD_get {hi : Int} {n i : Nat} {d : D} (h : (downD hi n)[i]? = some d) : i < n ∧ d = .int (hi - (i : Int)) := by
  unfold downD at h
  rw [List.getElem?_map] at h
  cases e : (List.range n)[i]? with
  | none => rw [e] at h; cases h
  | some x =>
    rw [e] at h
    cases h
    obtain ⟨a, rfl⟩ := range_get e
    exact ⟨a, rfl⟩
theorem src_down {M : Addr → Prop} {H1 : Hp} (hi : Int) (n : Nat) : Src W M (Itc hi (-1) n) H1 (downD hi n) := fun M' hm hn i H2 k g => by
  refine ⟨fun hl => by rw [downD_length] at hl; exact Nat.le_of_eq hl.symm, fun d hd => ?_⟩
  obtain ⟨hl, rfl⟩ := downD_get hd
  refine ⟨hl, fun x H3 y => ?_⟩
  obtain ⟨rfl, rfl⟩ := y
  have e : hi - (i : Int) = hi + (i : Int) * (-1) := by omega
  rw [e]
  exact ⟨g, Keep.refl _, .int _⟩
theorem it_down {P : List D → Prop} {ta : TA} (h : EvA W ta δ fun xs => ∃ m n : Int, xs = [.int m, .int n, .int (-1)] ∧ (-(2 ^ 62) ≤ m ∧ m < 2 ^ 62 ∧ -(2 ^ 62) ≤ n ∧ n < 2 ^ 62) ∧ P (downD m (m - n).toNat)) : IterD W (iRng3 ta) δ P := fun M σ H p R q => h M σ H p _ fun vs ds H1 g1 k1 r1 h1 => by
  obtain ⟨m, n, rfl, ⟨a1, a2, a3, a4⟩, hP⟩ := h1
  cases r1 with
  | cons r1 r2 =>
    cases r2 with
    | cons r2 r3 =>
      cases r3 with
      | cons r3 r4 =>
        cases r4
        cases r1
        cases r2
        cases r3
        exact ⟨m, n, -1, _, rfl, RgC.neg a1 a2 a3 a4, q _ H1 _ g1 k1 hP (src_down m _)⟩
end
end PD
namespace PD
open PySem PySem.Spec PyProof.Rows L2 WarM
theorem rd_repL {W : Wd} {P : D → Prop} {xs : List D} {k : Int} (h1 : -(2 ^ 63) ≤ k) (h2 : k < 2 ^ 63) (hl : xs.length * k.toNat ≤ 100000) (h : P (.lst (List.replicate k.toNat xs).flatten)) : RD W rRep (.lst xs) (.int k) P := fun M H v u w r1 r2 Q q => by
  cases r2
  cases r1 with
  | lst n ha hr =>
    refine ⟨_, k, _, rfl, rfl, ha, h1, h2, len_ok (by rw [hr.length]; exact hl), fun p hp => ?_⟩
    obtain ⟨x1, x2, x3⟩ := newL w (reps_flat hr k.toNat) hp
    exact q _ _ _ x1 x2 x3 h
end PD
namespace PD
open PySem PySem.Spec PyProof.Rows L2 WarM
/-- rows of flags, none of them empty -/
def FullB (Z : BM) : Prop := Z ≠ [] ∧ ∀ r ∈ Z, r ≠ []
/-- what stands first in a list of grids: none, or rows -/
def GridF (y : D) : Prop := y = .non ∨ ∃ (r : List Bool) (N : BM), y = flD (r :: N)
section
variable {W : Wd}
theorem first_rowB {M : Addr → Prop} {H : Hp} {v : V} {r : List Bool} (h : Rep W M H v (rowB r)) (n : r ≠ []) : ∃ b ws c, v = .ref b ∧ ¬ M b ∧ H b = some (.lst ws) ∧ Reps W M H ws (r.map .bl) ∧ ws[0]? = some (.bl c) := by
  cases h with
  | lst nb hb hr =>
    cases r with
    | nil => exact absurd rfl n
    | cons c r =>
      refine ⟨_, _, c, rfl, nb, hb, hr, ?_⟩
      cases hr with
      | cons r1 _ =>
        cases r1
        rfl
theorem gridF_rep {M : Addr → Prop} {H : Hp} {v : V} {y : D} (h : Rep W M H v y) (g : GridF y) : v = .non ∨ ∃ b ws c, v = .ref b ∧ H b = some (.lst ws) ∧ ws[0]? = some (.ref c) := by
  rcases g with rfl | ⟨r, N, rfl⟩
  · cases h
    exact .inl rfl
  · cases h with
    | lst nb hb hr =>
      cases hr with
      | cons r1 _ =>
        cases r1 with
        | lst na ha hr2 => exact .inr ⟨_, _, _, rfl, hb, rfl⟩
theorem flD_lift {M M' M2 : Addr → Prop} {H : Hp} {p : Addr} {vs : List V} {gl : List D} {y0 : D} {Z : BM} {v : V} (hp : H p = some (.lst vs)) (hr : Reps W M2 H vs gl) (g0 : gl[0]? = some y0) (hy : GridF y0) (hM : ∀ b, M b → M' b ∨ b = p) (hz : FullB Z)
    (h : Rep W M' H v (flD Z)) : Rep W M H v (flD Z) := by
  obtain ⟨u, hu, ru⟩ := hr.get g0
  have gu := gridF_rep ru hy
  -- no row stands at p
  have rows : ∀ {us : List V} {rs : BM}, (∀ r ∈ rs, r ≠ []) → Reps W M' H us (rs.map rowB) → Reps W M H us (rs.map rowB) := by
    intro us rs
    induction rs generalizing us with
    | nil =>
      intro _ h
      cases h
      exact .nil
    | cons r rs ih =>
      intro hn h
      cases h with
      | cons r1 r2 =>
        refine .cons ?_ (ih (fun r hr => hn r (List.mem_cons_of_mem _ hr)) r2)
        obtain ⟨b, ws, c, rfl, nb, hb, hrr, w0⟩ := first_rowB r1 (hn r List.mem_cons_self)
        have ne : b ≠ p := fun e => by
          subst e
          rw [hp] at hb
          cases hb
          rw [hu] at w0
          cases w0
          rcases gu with e | ⟨_, _, _, e, _⟩ <;> cases e
        refine .lst (fun m => (hM b m).elim nb ne) hb ?_
        exact Reps.of_get hrr.length fun j x d h1 h2 => by
          obtain ⟨d', h3, h4⟩ := hrr.got h1
          rw [h2] at h3
          cases h3
          rw [List.getElem?_map] at h2
          cases e : r[j]? with
          | none => rw [e] at h2; cases h2
          | some q =>
            rw [e] at h2
            cases h2
            cases h4
            exact .bl q
  cases h with
  | @lst a us ds na ha hrs =>
    have ne : a ≠ p := fun e => by
      subst e
      rw [hp] at ha
      cases ha
      obtain ⟨z1, z2⟩ := hz
      cases Z with
      | nil => exact z1 rfl
      | cons r0 Z =>
        cases hrs with
        | cons r1 _ =>
          simp at hu
          subst hu
          obtain ⟨b, ws, c, rfl, nb, hb, _, w0⟩ := first_rowB r1 (z2 r0 List.mem_cons_self)
          rcases gu with e | ⟨b', ws', c', e, hb', w0'⟩
          · cases e
          · cases e
            rw [hb] at hb'
            cases hb'
            rw [w0] at w0'
            cases w0'
    exact .lst (fun m => (hM a m).elim na ne) ha (rows hz.2 hrs)
/-- grids.append(f(grids)): flags made of the flags that are there -/
theorem so_appQ {Wx : WX} {X : XV → DS → Prop} {ω : Om} {δ : DS} {N : Om → DS → Prop} {R : D → Prop} {B C : Om → DS → Prop} {te : TE} {i : Nat} {a : Addr} {ds : List D} {y0 : D} (hi : δ[i]? = some (some (.obj a))) (hm : Has ω a ds) (ho : ∀ x ∈ ω, x.1 = a) (hu : ds.length < 100000) (g0 : ds[0]? = some y0) (hy : GridF y0)
    (h : EvL W te ω δ fun d => ∃ Z, d = flD Z ∧ FullB Z ∧ N (putO ω a fun es => es ++ [d]) δ) : SO W Wx (tDrop (tBM W.K "list" rAppend (tVar i) (tCons te tNil))) ω δ N R B C X := fun M0 H0 M1 L1 M σ H E d0 p ow e o => by
  obtain ⟨v, s1, r1⟩ := p.sl.get i _ hi
  cases r1
  obtain ⟨hM, n0, ns, nb, vs, ha, rr⟩ := ow a ds hm.1
  obtain ⟨p2, l2⟩ := own_lend p ow
  refine ⟨_, s1, .inl ⟨rfl, _, SqL.of ha⟩, h _ σ H p2 l2 _ fun u d H1 g1 k1 r1 h1 => ?_⟩
  obtain ⟨Z, rfl, hz, hN⟩ := h1
  have ha1 := k1 a _ ns ha
  have rr1 := rr.keep p.wf k1
  have ru : Rep W M H1 u (flD Z) := flD_lift ha1 rr1 g0 hy (fun b m => by
    by_cases q : b = a
    · exact .inr q
    · exact .inl ⟨m, fun x hx e => q (by rw [← e, ho x hx])⟩) hz r1
  refine ⟨a, vs, u, rfl, rfl, ha1, ?_, ?_⟩
  · rw [rr.length]
    exact Nat.lt_of_lt_of_le hu (by decide)
  · have one : ∀ es, (a, es) ∈ ω → Reps W M H1 (vs ++ [u]) (es ++ [flD Z]) := fun es m => by
      obtain ⟨_, _, _, _, vs', q1, q2⟩ := ow a es m
      rw [ha] at q1
      cases q1
      exact (q2.keep p.wf k1).append (.cons ru .nil)
    obtain ⟨x1, x2, x3⟩ := own_upd (f := fun es => es ++ [flD Z]) (p.next g1 k1) (ow.keep p.wf k1) (e.next p.wf k1) d0 hm.1 one
    exact o.nx M _ _ _ _ x1 x2 x3 hN
end
end PD
namespace PD
open PySem PySem.Spec PyProof.Rows L2 WarM
/-- ev_lcM where the list is to be one's own -/
theorem ev_lcMF {W : Wd} {δ : DS} {α : Type} {wi : TI} {gt : TG} {te : TE} {vs : List Nat} {P : List D → Prop} (xs : List α) (f g : α → D) (h : IterD W wi δ fun ds => ds = xs.map f ∧ xs.length ≤ 100000 ∧
    (∀ (i : Nat) (x : α), xs[i]? = some x → ∃ js, (∀ j ∈ js, j ∈ vs) ∧ GD W gt (f x) (wipeD δ vs) js fun δ2 => EvD W te δ2 fun z => z = g x) ∧ P (xs.map g)) : EvF W (tLc wi gt tYes te vs) δ P :=
  ev_lcLF fun M σ H p R q => h M σ H p R fun J H1 ds g1 k1 ⟨e, hl, hs, hP⟩ => q J H1 ds g1 k1 ⟨by rw [e, List.length_map]; exact hl, xs.map g, by rw [e, List.length_map, List.length_map], fun i d y hd hy => by
    subst e
    rw [List.getElem?_map] at hd hy
    cases hx : xs[i]? with
    | none => rw [hx] at hd; cases hd
    | some x =>
      rw [hx] at hd hy
      cases hd
      cases hy
      exact hs i x hx, hP⟩
end PD
namespace PD
open PySem PySem.Spec PyProof.Rows L2
theorem putF3 {f g k : Str} {a b c x y z : V} (hfg : f ≠ g) (hfk : f ≠ k) (hgk : g ≠ k) : putF k z (putF g y (putF f x [(f, a), (g, b), (k, c)])) = [(f, x), (g, y), (k, z)] := by
  simp [putF, hfg, hfk, hgk]
theorem fit_core {W : Wd} {F : FI} {M : Addr → Prop} {H1 : Hp} {vs : List V} {ds : List D} {C : Addr} {Q : VK} {E : XK} {G : List Str → List D → Prop} (w : Wf W M H1) (r : Reps W M H1 vs ds) (hF : F C ds G fun _ => False)
    (q : ∀ x dx fs es H', H1 x = none → StOk W H' → Keep W H1 H' → H' x = some (.ins C dx fs) → Reps W (fun a => M a ∨ a = x) H' (fs.map (·.2)) es → G (fs.map (·.1)) es → Q (.ref x) H') :
    ∀ x dx, H1 x = none → H1 dx = none → dx ≠ x → spInit W.K F (.ref x :: (vs ++ [])) (upd (upd H1 dx (.own x)) x (.ins C dx [])) (fun v H2 => v = .non ∧ Q (.ref x) H2) E := fun x dx hx hd hne => by
  have kn : Keep W H1 (upd (upd H1 dx (.own x)) x (.ins C dx [])) := (Keep.new hd).trans (Keep.new (by rw [upd_ne hne.symm]; exact hx))
  have gn : StOk W (upd (upd H1 dx (.own x)) x (.ins C dx [])) := (w.g.new hd).new (by rw [upd_ne hne.symm]; exact hx)
  have nM : ¬ M x := fun m => by
    obtain ⟨o, ho⟩ := w.dom x m
    rw [hx] at ho
    cases ho
  have ns : W.s ≠ some x := fun e => nM (w.sm x e)
  have wn : Wf W (fun a => M a ∨ a = x) (upd (upd H1 dx (.own x)) x (.ins C dx [])) := ⟨gn, fun a e => .inl (w.sm a e), fun a m => by
    rcases m with m | m
    · exact (w.next gn kn).dom a m
    · subst m
      exact ⟨_, upd_same⟩⟩
  have rn : Reps W (fun a => M a ∨ a = x) (upd (upd H1 dx (.own x)) x (.ins C dx [])) vs ds := (r.more fun a m n => by
    rcases m with m | m
    · exact absurd m n
    · subst m
      exact hx).keepG ⟨w.g, fun a e => .inl (w.sm a e)⟩ kn
  refine ⟨W, fun a => M a ∨ a = x, x, dx, C, vs, ds, _, _, by rw [List.append_nil], rfl, wn, .inr rfl, ns, upd_same, rn, hF, fun H' fs es g' k' hx' re hP => ⟨rfl, ?_⟩, fun cls d y H' g' k' rx hX => hX.elim⟩
  exact q x dx fs es H' hx g' (fun a o na ho => k' a o (ne_of_none ho hx) na (kn a o na ho)) hx' re hP
/-- x = C(..); x.f = the first; x.g = the second; x.k = the third; return x -/
theorem body_fit {K : PySem.W.Frag} {F : FX} {G : FI} {vs : List V} {H : Hp} {Q : VK} {E : XK} {N : List Str} {ta : TA} {f g k : Str} {C : Addr} {E' : L2.St → XK} (h : spX K F vs H Q E) (hN : N.length = 4) (hfg : f ≠ g) (hfk : f ≠ k) (hgk : g ≠ k)
    (hb : ∀ W ds P X, W.K = K → F ds P X → ∃ y0 y1 y2, ds = [y0, y1, y2] ∧ Cls K C ∧ NoAttr K C f ∧ NoAttr K C g ∧ NoAttr K C k ∧ P (.ins C [f, g, k] [y0, y1, y2]) ∧
      EvA W ta (startD N.length ds) fun es => G C es (fun ns zs => ns = [f, g, k]) fun _ => False) :
    tSeq (tAsg (tMakeS C (spInit K G) E' ta) (gName 3)) (tSeq (sFld K (tVar 3) (tVar 0) f) (tSeq (sFld K (tVar 3) (tVar 1) g) (tSeq (sFld K (tVar 3) (tVar 2) k) (tRet (tVar 3))))) { nx := fun _ H' => Q .non H', rt := Q } (L2.start N vs) H := by
  obtain ⟨W, M, ds, P, X, e, w, r, hF, q, qx⟩ := h
  obtain ⟨y0, y1, y2, rfl, c1, c2, c3, c4, hP, hA⟩ := hb W ds P X e hF
  subst e
  have p0 : Pre W M (startD N.length [y0, y1, y2]) (L2.start N vs) H := ⟨w, start_slots N r⟩
  refine hA M _ H p0 _ fun us es H1 g1 k1 r1 h1 => ?_
  refine fit_core (Q := fun v H2 => gName 3 v (L2.start N vs) H2 fun σ' H3 => tSeq (sFld W.K (tVar 3) (tVar 0) f) (tSeq (sFld W.K (tVar 3) (tVar 1) g) (tSeq (sFld W.K (tVar 3) (tVar 2) k) (tRet (tVar 3)))) { nx := fun _ H' => Q .non H', rt := Q } σ' H3) (p0.wf.next g1 k1) r1 h1 fun x dx fs zs H2 hx g2 k2 hx2 rz en => ?_
  have nM : ¬ M x := fun m => by
    obtain ⟨o, ho⟩ := (w.next g1 k1).dom x m
    rw [hx] at ho
    cases ho
  have ns : W.s ≠ some x := fun e => nM (w.sm x e)
  have hx0 : H x = none := by
    cases e : H x with
    | none => rfl
    | some o =>
      have := k1 x o ns e
      rw [hx] at this
      cases this
  -- the three that were passed
  have sl := p0.sl
  have sd : startD N.length [y0, y1, y2] = [some y0, some y1, some y2, none] := by rw [hN]; rfl
  rw [sd] at sl
  obtain ⟨v0, s0, q0⟩ := sl.get 0 _ rfl
  obtain ⟨v1, s1, q1⟩ := sl.get 1 _ rfl
  obtain ⟨v2, s2, q2⟩ := sl.get 2 _ rfl
  have l4 : (L2.start N vs).length = 4 := sl.len
  generalize L2.start N vs = σ at s0 s1 s2 l4
  have t3 : (σ.set 3 (some (V.ref x)))[3]? = some (some (.ref x)) := by
    rw [List.getElem?_set_self]
    omega
  have t0 : (σ.set 3 (some (V.ref x)))[0]? = some (some v0) := by rw [List.getElem?_set_ne (by decide)]; exact s0
  have t1 : (σ.set 3 (some (V.ref x)))[1]? = some (some v1) := by rw [List.getElem?_set_ne (by decide)]; exact s1
  have t2 : (σ.set 3 (some (V.ref x)))[2]? = some (some v2) := by rw [List.getElem?_set_ne (by decide)]; exact s2
  have k12 := k1.trans k2
  -- the fields that were made
  have f3 : ∃ a b c, fs = [(f, a), (g, b), (k, c)] := by
    match fs, en with
    | [(f', a), (g', b), (k', c)], en =>
      simp only [List.map_cons, List.map_nil, List.cons.injEq, and_true] at en
      obtain ⟨rfl, rfl, rfl⟩ := en
      exact ⟨a, b, c, rfl⟩
  obtain ⟨a, b, c, rfl⟩ := f3
  show tSeq _ _ _ (σ.set 3 (some (V.ref x))) H2
  refine ⟨v0, t0, _, t3, x, C, dx, _, rfl, hx2, c1, c2, by show 3 < 1000; decide, ?_⟩
  refine ⟨v1, t1, _, t3, x, C, dx, _, rfl, upd_same, c1, c3, by simp [putF], ?_⟩
  refine ⟨v2, t2, _, t3, x, C, dx, _, rfl, upd_same, c1, c4, by simp [putF, hfg], ?_⟩
  refine ⟨_, t3, ?_⟩
  rw [upd_upd, upd_upd, putF3 hfg hfk hgk]
  have hM2 : ∀ {v : V} {d : D}, Rep W M H v d → Rep W M (upd H2 x (.ins C dx [(f, v0), (g, v1), (k, v2)])) v d := fun r => by
    have r2 : Rep W (fun a => M a ∨ a = x) H2 _ _ := (r.more fun a m n => by
      rcases m with m | m
      · exact absurd m n
      · subst m
        exact hx0).keepG ⟨w.g, fun a e => .inl (w.sm a e)⟩ k12
    exact (r2.upd (rdT_ins hx2) (.inr rfl)).anti fun a m => .inl m
  have gg : StOk W (upd H2 x (.ins C dx [(f, v0), (g, v1), (k, v2)])) := fun s hs => by
    obtain ⟨n1, i1, c1, m1, a1, a2, a3, a4⟩ := g2 s hs
    refine ⟨n1, i1, c1, m1, by rw [upd_ne fun e => ns (by rw [hs, e])]; exact a1, a2, ?_, a4⟩
    rw [upd_ne (ne_of a3 hx2 (by intro z; cases z))]
    exact a3
  refine q _ _ _ gg (fun a o na ho => ?_) (.ins nM upd_same rfl (.cons (hM2 q0) (.cons (hM2 q1) (.cons (hM2 q2) .nil)))) hP
  rw [upd_ne (ne_of_none ho hx0)]
  exact k12 a o na ho
end PD
namespace PD
open PySem PySem.Spec PyProof.Rows L2
/-- a number of so many -/
def isIx (n : Int) (x : D) : Bool := x.isInt && decide (0 ≤ x.toI) && decide (x.toI < n)
section
variable {W : Wd} {Wx : WX} {X : XV → DS → Prop} {ω : Om} {δ : DS} {N : Om → DS → Prop} {R : D → Prop} {B C : Om → DS → Prop} {te : TE} {ta : TA}
theorem ev_listF {P : List D → Prop} (h : EvA W ta δ fun xs => ∃ ds, (xs = [.tup ds] ∨ xs = [.lst ds]) ∧ P ds) :
    EvF W (tCB (fun xs H Q => ∃ p ys, xs = [V.ref p] ∧ (SqL W.K H p ys ∨ SqT W.K H p ys) ∧ ∀ l, H l = none → Q (.ref l) (upd H l (.lst ys))) ta) δ P := fun M σ H p Q q =>
  h M σ H p _ fun us xs H1 g1 k1 r1 h1 => by
    obtain ⟨ds, hx, hP⟩ := h1
    have go : ∀ (b : Addr) (ys : List V), us = [.ref b] → (SqL W.K H1 b ys ∨ SqT W.K H1 b ys) → Reps W M H1 ys ds → ∃ p ys, us = [V.ref p] ∧ (SqL W.K H1 p ys ∨ SqT W.K H1 p ys) ∧ ∀ l, H1 l = none → Q (.ref l) (upd H1 l (.lst ys)) := fun b ys eu hs hr => ⟨b, ys, eu, hs, fun l hl => by
      have w1 := (p.next g1 k1).wf
      have hl0 : H l = none := by
        cases z : H l with
        | none => rfl
        | some oo =>
          have ns : W.s ≠ some l := fun w => by
            obtain ⟨_, _, _, _, q, _⟩ := g1 l w
            rw [hl] at q
            cases q
          rw [k1 l oo ns z] at hl
          cases hl
      have nM : ¬ M l := fun m => by
        obtain ⟨o, ho⟩ := w1.dom l m
        rw [hl] at ho
        cases ho
      have k2 : Keep W H1 (upd H1 l (.lst ys)) := Keep.new hl
      refine q l ys ds _ (g1.new hl) (k1.trans k2) hl0 nM upd_same ((hr.more fun c m n => ?_).keepG ⟨g1, fun c e => .inl (w1.sm c e)⟩ k2) hP
      rcases m with m | m
      · exact absurd m n
      · rw [m]; exact hl⟩
    rcases hx with rfl | rfl
    · cases r1 with
      | cons r1 r2 =>
        cases r2
        cases r1 with
        | tup hs hr => exact go _ _ rfl (.inr hs) hr
    · cases r1 with
      | cons r1 r2 =>
        cases r2
        cases r1 with
        | lst n hs hr => exact go _ _ rfl (.inl (.inl (.inl hs))) hr
/-- what holds no list is told of by all, whatever lists are lent -/
theorem unlend {M0 M : Addr → Prop} {H H1 : Hp} {v : V} {d : D} (ow : Own W M0 M H ω) (k : Keep W H H1) (h : Rep W (fun a => M a ∧ ∀ x ∈ ω, x.1 ≠ a) H1 v d) (n : d.nolst = true) : Rep W M H1 v d := by
  refine (h.withL n).anti fun a m => ?_
  by_cases q : ∀ x ∈ ω, x.1 ≠ a
  · exact .inl ⟨m, q⟩
  · have : ∃ x ∈ ω, x.1 = a := Classical.byContradiction fun z => q fun x hx e => z ⟨x, hx, e⟩
    obtain ⟨x, hx, rfl⟩ := this
    obtain ⟨_, _, ns, _, vs, hv, _⟩ := ow x.1 x.2 hx
    exact .inr ⟨vs, k _ _ ns hv⟩
/-- the arguments of a call, one's own lists lent -/
def EvAL (W : Wd) (ta : TA) (ω : Om) (δ : DS) (P : List D → Prop) : Prop := ∀ (M : Addr → Prop) (σ : L2.St) (H : Hp), Pre W M δ σ H → Lent W M H ω → ∀ Q : List V → Hp → Prop, (∀ vs ds H', StOk W H' → Keep W H H' → Reps W M H' vs ds → P ds → Q vs H') → ta σ H Q
theorem eal_ev {P : List D → Prop} (h : EvA W ta δ P) : EvAL W ta ω δ P := fun M σ H p _ Q q => h M σ H p Q q
theorem eal_put {P : List D → Prop} {a : Addr} {ds : List D} (i : Nat) (hi : δ[i]? = some (some (.obj a))) (hm : (a, ds) ∈ ω) (h : EvAL W ta ω (δ.set i (some (.lst ds))) P) : EvAL W ta ω δ P := fun M σ H p l Q q => h M σ H (lent_put hi hm p l) l Q q
/-- xs[k] = f(..), where f may raise what holds nothing -/
theorem so_setX {i j : Nat} {a : Addr} {ds : List D} {ti : TE} {F : FX} (hi : δ[i]? = some (some (.obj a))) (hm : (a, ds) ∈ ω)
    (h : EvAL W ta ω δ fun es => F es (fun d => d.nolst = true ∧ EvD W ti δ fun x => x = .int (j : Int) ∧ (∀ es, (a, es) ∈ ω → j < es.length) ∧ N (putO ω a fun es => es.set j d) δ) fun x => x.2 = [] ∧ X x δ) :
    SO W Wx (tAsg (tCallS (spX W.K F) (WE Wx) ta) (gSub (tVar i) ti rSetL)) ω δ N R B C X := fun M0 H0 M1 L1 M σ H E d0 p ow e o => by
  obtain ⟨v, s1, r1⟩ := p.sl.get i _ hi
  cases r1
  obtain ⟨hM, n0, ns, nb, vs, ha, rr⟩ := ow a ds hm
  obtain ⟨p2, l2⟩ := own_lend p ow
  refine h _ σ H p2 l2 _ fun us es H1 g1 k1 r1 hF => ?_
  refine ⟨W, _, es, _, _, rfl, (p2.next g1 k1).wf, r1, hF, fun v d H2 g2 k2 r2 h2 => ?_, fun cls dx x H2 g2 k2 r2 hx => ?_⟩
  · obtain ⟨nl, h2⟩ := h2
    have k12 := k1.trans k2
    have r2 := unlend ow k12 r2 nl
    refine ⟨_, s1, ?_⟩
    have p3 := p.next g2 k12
    refine h2 M σ H2 p3 _ fun u x H3 g3 k3 r3 h3 => ?_
    obtain ⟨rfl, hj, hN⟩ := h3
    cases r3
    have k13 := k12.trans k3
    have ha2 := k13 a _ ns ha
    have hl : j < vs.length := by rw [rr.length]; exact hj ds hm
    refine ⟨a, vs, j, j, rfl, rfl, ha2, ?_, ?_⟩
    · unfold ixN
      simp
      omega
    · have one : ∀ es, (a, es) ∈ ω → Reps W M H3 (vs.set j v) (es.set j d) := fun es m => by
        obtain ⟨_, _, _, _, vs', q1, q2⟩ := ow a es m
        rw [ha] at q1
        cases q1
        exact (q2.keep p.wf k13).setR j (r2.keep p3.wf k3)
      obtain ⟨x1, x2, x3⟩ := own_upd (f := fun es => es.set j d) (p3.next g3 k3) (ow.keep p.wf k13) (e.next p.wf k13) d0 hm one
      exact o.nx M _ _ _ _ x1 x2 x3 hN
  · obtain ⟨e2, hX⟩ := hx
    have k12 := k1.trans k2
    refine o.xw M σ δ H2 cls dx x (p.next g2 k12) ((e.next p.wf k12).e) ⟨r2.1, ?_⟩ hX
    have r2 := r2.2
    cases dx with
    | none => exact e2
    | some dx =>
      obtain ⟨fs, n, hd, ef, rf⟩ := r2
      refine ⟨fs, fun m => n ⟨m, fun y hy ey => ?_⟩, hd, ef, ?_⟩
      · obtain ⟨_, _, nsy, _, ws, hv, _⟩ := ow y.1 y.2 hy
        have := k12 _ _ nsy hv
        rw [ey, hd] at this
        cases this
      · rw [e2] at rf ⊢
        cases fs with
        | nil => exact .nil
        | cons _ _ => rw [e2] at ef; cases ef
/-- return f(..), one's own lists passed on -/
theorem so_retX {F : FX} (h : EvAL W ta ω δ fun es => F es (fun d => d.nolst = true ∧ R d) fun x => x.2 = [] ∧ X x δ) : SO W Wx (tRet (tCallS (spX W.K F) (WE Wx) ta)) ω δ N R B C X := fun M0 H0 M1 L1 M σ H E d0 p ow e o => by
  obtain ⟨p2, l2⟩ := own_lend p ow
  refine h _ σ H p2 l2 _ fun us es H1 g1 k1 r1 hF => ?_
  refine ⟨W, _, es, _, _, rfl, (p2.next g1 k1).wf, r1, hF, fun v d H2 g2 k2 r2 h2 => ?_, fun cls dx x H2 g2 k2 r2 hx => ?_⟩
  · have k12 := k1.trans k2
    exact o.rt v d H2 g2 ((e.next p.wf k12).e.k) ((unlend ow k12 r2 h2.1).anti e.e.m) h2.2
  · obtain ⟨e2, hX⟩ := hx
    have k12 := k1.trans k2
    refine o.xw M σ δ H2 cls dx x (p.next g2 k12) ((e.next p.wf k12).e) ⟨r2.1, ?_⟩ hX
    have r2 := r2.2
    cases dx with
    | none => exact e2
    | some dx =>
      obtain ⟨fs, n, hd, ef, rf⟩ := r2
      refine ⟨fs, fun m => n ⟨m, fun y hy ey => ?_⟩, hd, ef, ?_⟩
      · obtain ⟨_, _, nsy, _, ws, hv, _⟩ := ow y.1 y.2 hy
        have := k12 _ _ nsy hv
        rw [ey, hd] at this
        cases this
      · rw [e2] at rf ⊢
        cases fs with
        | nil => exact .nil
        | cons _ _ => rw [e2] at ef; cases ef
end
end PD
namespace PDSR
open PySem PySem.Spec PyProof.Rows L2
section
variable {X : Cx}
/-- sorted(t), a tuple of ints -/
def rSrtT (K : PySem.W.Frag) : List V → Hp → VK → Prop := fun vs H Q => ∃ (a : Addr) (ns : List Int), vs = [V.ref a] ∧ SqT K H a (ns.map V.int) ∧ ns.length < 64 ∧
  ∀ (os : List Int) (l : Addr), os.Perm ns → os.Pairwise (· ≤ ·) → H l = none → Q (.ref l) (upd H l (.lst (os.map V.int)))
theorem srt_tup {prog : Program} {w : World} {A : Around} {E : Value → Shared → Prop} {s : Shared} {a : Addr} {us : List Value} {ns : List Int} {Q : Value → Shared → Prop} (ht : IsTup s.heap a us.toArray) (hi : IntsAre us ns) (h64 : us.length < 64)
    (h : ∀ (h1 : Heap) (out : Array Value) (os : List Int), (∀ b o, s.heap.get? b = some o → h1.get? b = some o) → IntsAre out.toList os → os.Perm ns → os.Pairwise (· ≤ ·) → Q (.ref h1.objs.size) { s with heap := sortedHeap (h1.push (seqObj "list" us.toArray 0)) h1.objs.size us out }) :
    wpAny (model prog w) A (call (.builtin "sorted") [.ref a]) Q E s := by
  obtain ⟨o, ho, hc, n, hd⟩ := ht
  apply Calls.call_function_entry kind_sorted plain_sorted entry_sorted (args_sorted1 _)
  unfold Builtin.«sorted»
  apply wpAny_bind
  apply wpAny_pure
  apply wpAny_bind
  refine wpAny_collect_seq a (.inr rfl) ho hc hd (fun h1 k => ?_) (by rw [List.size_toArray, sizeLine_eq]; omega)
  apply wpAny_bind
  refine wpAny_newList ?_ (hsz := by rw [sizeLine_eq]; show us.length ≤ _; omega)
  have at0 : (h1.push (seqObj "list" us.toArray 0)).get? h1.objs.size = some (seqObj "list" us.toArray 0) := Heap.get?_push_size _ rfl
  apply wpAny_bind
  apply wpAny_holding
  refine wpAny_call_entry slot_list_sort ⟨_, at0, rfl⟩ entry_list_sort (list_sort_tree at0 hi h64 fun out os p1 p2 p3 => ⟨_, rfl, ?_⟩) (args_list_sort _)
  exact wpAny_pure ⟨_, rfl, h h1 out os k p1 p2 p3⟩
theorem cr_srtT : CallR X (.builtin "sorted") (rSrtT X.K) := fun pins s σ H vs us Q I r h => by
  obtain ⟨a, ns, rfl, hs, h64, q⟩ := h
  obtain ⟨its, rv, ht, hz⟩ := I.tuple hs
  rw [Vals.ref1 r]
  have hi := rv.ints
  refine srt_tup ht hi (by rw [hi.length]; exact h64) fun h1 out os k p1 p2 p3 => ?_
  have I1 : Inv X pins σ H { s with heap := h1 } := I.kept (t' := s.toks) k
  obtain ⟨e, he⟩ := sortedHeap_at (h := h1.push (seqObj "list" its.toArray 0)) (a := h1.objs.size) (vs := its) (n := 0) (out := out) (Heap.get?_push_size _ rfl)
  have old : ∀ b o, h1.get? b = some o → (sortedHeap (h1.push (seqObj "list" its.toArray 0)) h1.objs.size its out).get? b = some o := fun b o eb => by
    have l : b < h1.objs.size := Heap.lt_size eb
    rw [sortedHeap_old (Nat.ne_of_lt l) (by rw [size_push']; exact Nat.lt_succ_of_lt l), Heap.get?_push_ne _ _ _ (Nat.ne_of_lt l)]
    exact eb
  refine ⟨.ref h1.objs.size, upd H h1.objs.size (.lst (os.map V.int)), I1.laid (t' := s.toks) old (Nat.le_refl _) ⟨?_, out.toList, e, vals_of_ints p1, ?_⟩, rfl, q os _ p2 p3 (I1.hok.fresh (Nat.le_refl _))⟩
  · rw [List.length_map, p2.length_eq, sizeLine_eq]
    omega
  · simpa using he
/-- repr of an int or a text -/
def rRepr : List V → Hp → VK → Prop := fun xs H Q => (∃ i : Int, xs = [.int i] ∧ i.natAbs.log2 < 1920 ∧ Q (.str (toString i)) H) ∨ ∃ y : Str, xs = [.str y] ∧ (reprText y).length ≤ sizeLine ∧ Q (.str (reprText y)) H
theorem cr_repr : CallR X (.builtin "repr") rRepr := fun pins s σ H xs us Q I r h => by
  rcases h with ⟨i, rfl, hz, q⟩ | ⟨y, rfl, hz, q⟩
  · obtain ⟨u, rfl, t, rfl⟩ := vals1 r
    exact PySem.P.repr_of_int hz ⟨.str (toString i), H, I.tok _, ⟨_, rfl⟩, q⟩
  · obtain ⟨u, rfl, t, rfl⟩ := vals1 r
    exact PySem.P.repr_of_str (⟨.str (reprText y), H, I.tok _, ⟨_, rfl⟩, q⟩) hz
end
end PDSR
namespace PD
open PySem PySem.Spec PyProof.Rows L2 PDSR
section
variable {W : Wd} {Wx : WX} {X : XV → DS → Prop} {ω : Om} {δ : DS} {N : Om → DS → Prop} {R : D → Prop} {B C : Om → DS → Prop} {te : TE} {ta : TA}
theorem reps_int {M : Addr → Prop} {H : Hp} : ∀ {ns : List Int} {vs : List V}, Reps W M H vs (ns.map D.int) → vs = ns.map V.int
  | [], _, h => by cases h; rfl
  | n :: ns, _, h => by
    cases h with
    | cons r t =>
      cases r
      rw [reps_int t]
      rfl
theorem int_reps {M : Addr → Prop} {H : Hp} : ∀ (ns : List Int), Reps W M H (ns.map V.int) (ns.map D.int)
  | [] => .nil
  | n :: ns => .cons (.int n) (int_reps ns)
theorem rc_srtT {P : D → Prop} {ns : List Int} (h64 : ns.length < 64) (h : ∀ os : List Int, os.Perm ns → os.Pairwise (· ≤ ·) → P (.lst (os.map D.int))) : RCD W (rSrtT W.K) [.tup (ns.map D.int)] P := fun M H vs w r Q q => by
  cases r with
  | cons r t =>
    cases t
    cases r with
    | tup hs hr =>
      have e := reps_int hr
      subst e
      refine ⟨_, ns, rfl, hs, h64, fun os l p1 p2 hl => ?_⟩
      obtain ⟨x1, x2, x3⟩ := newL w (int_reps os) hl
      exact q _ _ _ x1 x2 x3 (h os p1 p2)
/-- the ints below n -/
def natD (n : Nat) : List D := (List.range n).map fun (k : Nat) => D.int (k : Int)
theorem ev_lstRg {P : List D → Prop} (h : EvD W te δ fun d => ∃ n : Nat, d = .int (n : Int) ∧ n ≤ 16777216 ∧ P (natD n)) : EvF W (tLstRg (tRg1 te)) δ P := fun M σ H p Q q =>
  h M σ H p _ fun v d H1 g1 k1 r1 h1 => by
    obtain ⟨n, rfl, hn, hP⟩ := h1
    cases r1
    refine ⟨n, rfl, RgOk.of_le (by omega) (by omega) (by omega) (by omega), fun l hl => ?_⟩
    have w1 := (p.next g1 k1).wf
    have hl0 : H l = none := by
      cases z : H l with
      | none => rfl
      | some oo =>
        have ns : W.s ≠ some l := fun w => by
          obtain ⟨_, _, _, _, q, _⟩ := g1 l w
          rw [hl] at q
          cases q
        rw [k1 l oo ns z] at hl
        cases hl
    have nM : ¬ M l := fun m => by
      obtain ⟨o, ho⟩ := w1.dom l m
      rw [hl] at ho
      cases ho
    have e1 : rgV 0 (n : Int) = ((List.range n).map fun (k : Nat) => (k : Int)).map V.int := by
      unfold rgV
      rw [List.map_map, show ((n : Int) - 0).toNat = n from by omega]
      refine List.map_congr_left fun k _ => ?_
      show V.int (0 + (k : Int)) = V.int (k : Int)
      rw [Int.zero_add]
    have e2 : natD n = ((List.range n).map fun (k : Nat) => (k : Int)).map D.int := by
      unfold natD
      rw [List.map_map]
      rfl
    exact q l _ (natD n) _ (g1.new hl) (k1.trans (Keep.new hl)) hl0 nM upd_same (by rw [e1, e2]; exact int_reps _) hP
/-- xs.append(ys.pop(e)), both one's own -/
theorem so_appPop {i j : Nat} {a b : Addr} {ds es : List D} (hi : δ[i]? = some (some (.obj a))) (hj : δ[j]? = some (some (.obj b))) (hm : Has ω a ds) (hn : Has ω b es) (hab : a ≠ b) (hu : ds.length < 100000)
    (h : EvL W te ω δ fun d => ∃ (k : Nat) (y : Int), d = .int (k : Int) ∧ k < 100000 ∧ es[k]? = some (.int y) ∧ N (putO (putO ω b fun zs => zs.eraseIdx k) a fun zs => zs ++ [.int y]) δ) :
    SO W Wx (tDrop (tBM W.K "list" rAppend (tVar i) (tCons (tBM W.K "list" rPopAt (tVar j) (tCons te tNil)) tNil))) ω δ N R B C X := fun M0 H0 M1 L1 M σ H E d0 p ow e o => by
  obtain ⟨v, s1, r1⟩ := p.sl.get i _ hi
  cases r1
  obtain ⟨v, s2, r2⟩ := p.sl.get j _ hj
  cases r2
  obtain ⟨hM, n0, ns, nb, vs, ha, rr⟩ := ow a ds hm.1
  obtain ⟨hM2, n02, ns2, nb2, us, hb, ru⟩ := ow b es hn.1
  obtain ⟨p2, l2⟩ := own_lend p ow
  refine ⟨_, s1, .inl ⟨rfl, _, SqL.of ha⟩, _, s2, .inl ⟨rfl, _, SqL.of hb⟩, h _ σ H p2 l2 _ fun w d H1 g1 k1 r1 h1 => ?_⟩
  obtain ⟨k, y, rfl, hk, hy, hN⟩ := h1
  cases r1
  have ha1 := k1 a _ ns ha
  have hb1 := k1 b _ ns2 hb
  obtain ⟨vy, gy, ry⟩ := ru.get hy
  cases ry
  have ku : k < us.length := (List.getElem?_eq_some_iff.mp gy).1
  refine ⟨b, us, k, k, .int y, rfl, rfl, hb1, by omega, by omega, ?_, gy, ?_⟩
  · unfold seqIndex?
    simp
    omega
  have erase : ∀ {us : List V} {es : List D} {H : Hp} (k : Nat), Reps W M H us es → Reps W M H (us.eraseIdx k) (es.eraseIdx k) := fun {us es H} k r => by
    induction k generalizing us es with
    | zero => cases r with
      | nil => exact .nil
      | cons _ t => exact t
    | succ k ih => cases r with
      | nil => exact .nil
      | cons r t => exact .cons r (ih t)
  have one : ∀ zs, (b, zs) ∈ ω → Reps W M H1 (us.eraseIdx k) (zs.eraseIdx k) := fun zs m => by
    obtain ⟨_, _, _, _, vs', q1, q2⟩ := ow b zs m
    rw [hb] at q1
    cases q1
    exact erase k (q2.keep p.wf k1)
  obtain ⟨x1, x2, x3⟩ := own_upd (f := fun zs => zs.eraseIdx k) (p.next g1 k1) (ow.keep p.wf k1) (e.next p.wf k1) d0 hn.1 one
  have ha2 : upd H1 b (.lst (us.eraseIdx k)) a = some (.lst vs) := by rw [upd_ne hab]; exact ha1
  refine ⟨a, vs, .int y, rfl, rfl, ha2, ?_, ?_⟩
  · rw [rr.length]
    exact Nat.lt_of_lt_of_le hu (by decide)
  have hm2 : (a, ds) ∈ putO ω b fun zs => zs.eraseIdx k := List.mem_map.mpr ⟨(a, ds), hm.1, by rw [if_neg hab]⟩
  have two : ∀ zs, (a, zs) ∈ (putO ω b fun zs => zs.eraseIdx k) → Reps W M (upd H1 b (.lst (us.eraseIdx k))) (vs ++ [.int y]) (zs ++ [.int y]) := fun zs m => by
    obtain ⟨_, _, _, _, vs', q1, q2⟩ := x2 a zs m
    rw [ha2] at q1
    cases q1
    exact q2.append (.cons (.int y) .nil)
  obtain ⟨y1, y2, y3⟩ := own_upd (f := fun zs => zs ++ [.int y]) x1 x2 x3 d0 hm2 two
  exact o.nx M _ _ _ _ y1 y2 y3 hN
theorem rc_reprI {P : D → Prop} {i : Int} (hz : i.natAbs.log2 < 1920) (h : P (.str (toString i))) : RCD W rRepr [.int i] P := fun M H vs w r Q q => by
  cases r with
  | cons r t =>
    cases t
    cases r
    exact .inl ⟨i, rfl, hz, q _ _ H w.g (Keep.refl H) (.str _) h⟩
theorem rc_reprS {P : D → Prop} {y : Str} (hz : (reprText y).length ≤ sizeLine) (h : P (.str (reprText y))) : RCD W rRepr [.str y] P := fun M H vs w r Q q => by
  cases r with
  | cons r t =>
    cases t
    cases r
    exact .inr ⟨y, rfl, hz, q _ _ H w.g (Keep.refl H) (.str _) h⟩
end
end PD
namespace PD
open PySem PySem.Spec PyProof.Rows L2 PDSR
theorem cr_srtTK {X : Cx} {K : PySem.W.Frag} (h : X.K = K) : CallR X (.builtin "sorted") (rSrtT K) := by subst h; exact cr_srtT
end PD
namespace PD
open PySem PySem.Spec PyProof.Rows L2
def rgI (n : Nat) : List Int := (List.range n).map fun (k : Nat) => (k : Int)
theorem rgI_len (n : Nat) : (rgI n).length = n := by simp [rgI]
theorem natD_rgI (n : Nat) : natD n = (rgI n).map D.int := by
  unfold natD rgI
  rw [List.map_map]
  rfl
theorem rgI_mem {n : Nat} {i : Int} : i ∈ rgI n ↔ 0 ≤ i ∧ i < n := by
  unfold rgI
  simp only [List.mem_map, List.mem_range]
  constructor
  · rintro ⟨k, hk, rfl⟩
    omega
  · rintro ⟨h1, h2⟩
    exact ⟨i.toNat, by omega, by omega⟩
theorem rgI_pw (n : Nat) : (rgI n).Pairwise (· ≤ ·) := by
  unfold rgI
  rw [List.pairwise_map]
  refine List.Pairwise.imp (fun {a b} h => ?_) (List.pairwise_lt_range)
  omega
/-- is it an order of so many -/
def isOrd (n : Nat) : D → Bool
  | .tup xs => (match intsOf xs with
    | some l => decide (l.Perm (rgI n))
    | none => false)
  | _ => false
theorem isOrd_tup (n : Nat) (xs : List D) : isOrd n (.tup xs) = (match intsOf xs with
    | some l => decide (l.Perm (rgI n))
    | none => false) := rfl
theorem isOrd_of {n : Nat} {x : D} (h : isOrd n x = true) : ∃ l : List Int, x = .tup (l.map D.int) ∧ l.Perm (rgI n) := by
  unfold isOrd at h
  split at h
  · split at h
    · rename_i l e
      exact ⟨l, by rw [intsOf_some e], of_decide_eq_true h⟩
    · cases h
  · cases h
theorem isOrd_ints {n : Nat} {l : List Int} : isOrd n (.tup (l.map D.int)) = decide (l.Perm (rgI n)) := by
  show (match intsOf (l.map D.int) with
    | some l => decide (l.Perm (rgI n))
    | none => false) = _
  rw [intsOf_map]
theorem eqvAll_ints : ∀ (a b : List Int), PyData.eqvAll (D.pys (a.map D.int)) (D.pys (b.map D.int)) = decide (a = b)
  | [], [] => rfl
  | [], _ :: _ => rfl
  | _ :: _, [] => rfl
  | x :: a, y :: b => by
    show (PyData.eqv (D.py (.int x)) (D.py (.int y)) && PyData.eqvAll (D.pys (a.map D.int)) (D.pys (b.map D.int))) = _
    rw [eqvAll_ints a b]
    show ((x == y) && _) = _
    by_cases h : x = y
    · subst h
      simp
    · simp [h]
theorem eqv_lints (a b : List Int) : D.eqv (.lst (a.map D.int)) (.lst (b.map D.int)) = decide (a = b) := eqvAll_ints a b
theorem ints_lays (a : List Int) : (D.lst (a.map D.int)).lays 1 = true := by
  show D.laysA (a.map D.int) 0 = true
  exact laysA_of fun x hx => by
    obtain ⟨i, _, rfl⟩ := List.mem_map.mp hx
    rfl
theorem lints_fine (a : List Int) : (D.lst (a.map D.int)).fine = true := lays_fine (ints_lays a) (by decide)
/-- sorted, and held against the numbers below n -/
theorem srt_is {os l : List Int} {n : Nat} (h : os.Perm l) (s : os.Pairwise (· ≤ ·)) : decide (os = rgI n) = decide (l.Perm (rgI n)) := by
  refine decide_eq_decide.mpr ⟨fun e => ?_, fun p => ?_⟩
  · subst e
    exact h.symm
  · exact PySem.W.lks_uniq (h.trans p) s (rgI_pw n)
/-- sorted(l) == list(range(n)) -/
theorem rd_srt {W : Wd} {δ : DS} {P : D → Prop} {n : Nat} {l os : List Int} (p1 : os.Perm l) (p2 : os.Pairwise (· ≤ ·)) (h : P (.bl (decide (l.Perm (rgI n))))) : RD W (rEqD W.K) (.lst (os.map D.int)) (.lst (natD n)) P := by
  rw [natD_rgI]
  refine rd_eqD (lints_fine _) (lints_fine _) ?_
  rw [eqv_lints, srt_is p1 p2]
  exact h
end PD
namespace PD
open PySem PySem.Spec PyProof.Rows L2
/-- a step's numbers, told by other ones -/
def renL (ns : List Int) (k : Str) (l : List Int) : List Int := (srcs k l).map (fun a => ns.getD a.toNat 0) ++ l.drop (srcs k l).length
theorem srcs_len {k : Str} {l : List Int} (hk : kindLen.lookup k = some ((l.length : Int) + 1)) : (srcs k l).length ≤ l.length ∧ (srcs k l).length ≤ 2 ∧ srcs k l = l.take (srcs k l).length := by
  unfold srcs
  split
  · rw [List.length_take]
    refine ⟨by omega, by omega, ?_⟩
    rw [List.take_eq_take_iff]
    omega
  · rw [List.length_take]
    refine ⟨by omega, by omega, ?_⟩
    rw [List.take_eq_take_iff]
    omega
/-- who stands where, by the order -/
def numsO (m : Nat) (l : List Int) (k : Nat) : List Int := (List.range k).foldl (fun ns i => ns.set (l.getD i 0).toNat (i : Int)) (rgI m)
theorem numsO_succ (m : Nat) (l : List Int) (k : Nat) : numsO m l (k + 1) = (numsO m l k).set (l.getD k 0).toNat (k : Int) := by
  unfold numsO
  rw [List.range_succ, List.foldl_append]
  rfl
theorem numsO_len (m : Nat) (l : List Int) : ∀ k, (numsO m l k).length = m
  | 0 => rgI_len m
  | k + 1 => by rw [numsO_succ, List.length_set, numsO_len m l k]
end PD
namespace PD
open PySem PySem.Spec PyProof.Rows L2
/-- what is given back may hold one's own lists -/
theorem so_retAll {W : Wd} {Wx : WX} {X : XV → DS → Prop} {ω : Om} {δ : DS} {N : Om → DS → Prop} {R : D → Prop} {B C : Om → DS → Prop} {te : TE} (h : EvL W te ω δ R) : SO W Wx (tRet te) ω δ N R B C X := fun M0 H0 M1 L1 M σ H E d0 p ow e o => by
  obtain ⟨p2, l2⟩ := own_lend p ow
  refine h _ σ H p2 l2 _ fun v d H1 g1 k1 r1 h1 => ?_
  exact o.rt v d H1 g1 ((e.next p.wf k1).e.k) (r1.anti fun b hb => ⟨e.e.m b hb, fun x hx ex => (ow x.1 x.2 hx).2.1 (by rw [ex]; exact hb)⟩) h1
end PD
namespace PD
open PySem PySem.Spec PyProof.Rows L2 WarM
theorem dimB_same {A : BM} {r c r' c' : Nat} (d : DimB A r c) (d' : DimB A r' c') (h : 1 ≤ r) : r' = r ∧ c' = c := by
  have h1 : r' = r := d'.1.symm.trans d.1
  refine ⟨h1, ?_⟩
  cases A with
  | nil => have := d.1; simp at this; omega
  | cons x A => rw [← d.2 x List.mem_cons_self, ← d'.2 x List.mem_cons_self]
/-- fewer flags -/
def LeB (A B : BM) : Prop := ∃ r c, (1 ≤ r ∧ 1 ≤ c) ∧ DimB A r c ∧ DimB B r c ∧ ∀ i j, i < r → j < c → atB A i j = true → atB B i j = true
theorem LeB.dim {A B : BM} {r c : Nat} (h : LeB A B) (d : DimB A r c) : DimB B r c ∧ ∀ i j, i < r → j < c → atB A i j = true → atB B i j = true := by
  obtain ⟨r', c', h1, d1, d2, h⟩ := h
  obtain ⟨rfl, rfl⟩ := dimB_same d1 d h1.1
  exact ⟨d2, h⟩
theorem dim_starL {M : BM} {n : Nat} (d : DimB M n n) (h1 : 1 ≤ n) : DimB (starL M).1 n n ∧ ∀ i j, i < n → j < n → atB (starL M).1 i j = sm (atB M) n (n - 1) i j := by
  obtain ⟨a, b, c⟩ := foldL d h1 (n - 1)
  unfold starL
  rw [d.1]
  exact ⟨a, fun i j hi hj => (c i j hi hj).1⟩
theorem dim_colsB {M : BM} {r c : Nat} (d : DimB M r c) : DimB (colsB M c) c r := ⟨by simp [colsB], fun row h => by
  obtain ⟨j, hj, rfl⟩ := List.mem_map.mp h
  rw [List.length_map, d.1]⟩
theorem dim_beside {A B : BM} {r m c : Nat} (d : DimB A r m) (d2 : DimB B r c) : DimB (List.zipWith (· ++ ·) A B) r (m + c) := ⟨by rw [List.length_zipWith, d.1, d2.1]; omega, fun row h => by
  obtain ⟨i, hi, e⟩ := List.getElem_of_mem h
  rw [List.length_zipWith] at hi
  rw [List.getElem_zipWith] at e
  rw [← e, List.length_append, d.2 _ (List.getElem_mem _), d2.2 _ (List.getElem_mem _)]⟩
theorem dim_above {A B : BM} {r m c : Nat} (d : DimB A r c) (d2 : DimB B m c) : DimB (A ++ B) (r + m) c := ⟨by rw [List.length_append, d.1, d2.1], fun row h => (List.mem_append.mp h).elim (d.2 row) (d2.2 row)⟩
theorem dim_piece {A : BM} {r c i j h w : Nat} (d : DimB A r c) (hr : i + h ≤ r) (hc : j + w ≤ c) : DimB (((A.drop i).take h).map fun row => (row.drop j).take w) h w := ⟨by
  rw [List.length_map, List.length_take, List.length_drop, d.1]
  omega, fun row hrow => by
  obtain ⟨x, hx, rfl⟩ := List.mem_map.mp hrow
  rw [List.length_take, List.length_drop, d.2 x (List.mem_of_mem_drop (List.mem_of_mem_take hx))]
  omega⟩
end PD
namespace PD
open PySem PySem.Spec PyProof.Rows L2 WarM
/-- flags of a shape -/
def DimSh (M : BM) (p : Sh) : Prop := ∃ a b : Nat, p = ((a : Int), (b : Int)) ∧ DimB M a b ∧ 1 ≤ a ∧ 1 ≤ b ∧ a ≤ 12 ∧ b ≤ 12
theorem small_inv {o : Option Sh} {q : Sh} (h : small12 o = some q) : o = some q ∧ q.1 ≤ 12 ∧ q.2 ≤ 12 := by
  cases o with
  | none => cases h
  | some p =>
    simp only [small12] at h
    split at h
    · cases h
    · rename_i hh
      have := Option.some.inj h
      subst this
      exact ⟨rfl, by omega, by omega⟩
theorem fit_plus (l : List Int) (p q : Sh) : fitD "plus" l p q = if p = q then some p else none := by unfold fitD twoD; rw [if_neg (by decide), if_neg (by decide), if_neg (by decide), if_pos rfl]
theorem fit_times (l : List Int) (p q : Sh) : fitD "times" l p q = if p.2 = q.1 then some (p.1, q.2) else none := by unfold fitD twoD; rw [if_neg (by decide), if_neg (by decide), if_neg (by decide), if_neg (by decide), if_pos rfl]
theorem fit_beside (l : List Int) (p q : Sh) : fitD "beside" l p q = if p.1 = q.1 then some (p.1, p.2 + q.2) else none := by unfold fitD twoD; rw [if_neg (by decide), if_neg (by decide), if_neg (by decide), if_neg (by decide), if_neg (by decide), if_pos rfl]
theorem fit_above (l : List Int) (p q : Sh) : fitD "above" l p q = if p.2 = q.2 then some (p.1 + q.1, p.2) else none := by unfold fitD twoD; rw [if_neg (by decide), if_neg (by decide), if_neg (by decide), if_neg (by decide), if_neg (by decide), if_neg (by decide)]
theorem fit_turned (l : List Int) (p q : Sh) : fitD "turned" l p q = some (p.2, p.1) := by unfold fitD; rw [if_pos rfl]
theorem fit_star (l : List Int) (p q : Sh) : fitD "star" l p q = if p.1 = p.2 then some p else none := by unfold fitD; rw [if_neg (by decide), if_pos rfl]
theorem fit_piece (a i j r c : Int) (p q : Sh) : fitD "piece" [a, i, j, r, c] p q = pieceD i j r c p := by unfold fitD; rw [if_neg (by decide), if_neg (by decide), if_pos rfl]
theorem src_at {shs : List Sh} {a : Int} (h : okSrc shs.length a = true) : ∃ (n : Nat) (p : Sh), a = (n : Int) ∧ shs[n]? = some p ∧ shAt shs a = p := by
  unfold okSrc at h
  simp only [Bool.and_eq_true, decide_eq_true_eq] at h
  obtain ⟨n, rfl⟩ := Int.eq_ofNat_of_zero_le h.1
  have hn : n < shs.length := by omega
  refine ⟨n, shs[n], rfl, List.getElem?_eq_getElem hn, ?_⟩
  show shs.getD (n : Int).toNat (0, 0) = _
  rw [Int.toNat_natCast, List.getD_eq_getElem?_getD, List.getElem?_eq_getElem hn]
  rfl
theorem mk_ex {G : Nat → Option BM} {shs : List Sh} {k : Str} {l : List Int} {q : Sh} (hG : ∀ a p, shs[a]? = some p → ∃ M, G a = some M ∧ DimSh M p) (hk : kindLen.lookup k = some ((l.length : Int) + 1)) (h : madeD shs (stD k l) = some q) : ∃ M, MkB G k l M ∧ DimSh M q := by
  unfold madeD at h
  rw [stepOf_stD hk] at h
  simp only at h
  split at h
  case isFalse => cases h
  rename_i hall
  obtain ⟨hf, q1, q2⟩ := small_inv h
  have two : kindLen.lookup k = some 3 → (l.length : Int) + 1 = 3 → ∃ (a b : Nat) (M N : BM) (p1 p2 : Sh), l = [(a : Int), (b : Int)] ∧ G a = some M ∧ G b = some N ∧ DimSh M p1 ∧ DimSh N p2 ∧ fitD k l p1 p2 = some q := fun k3 hl => by
    obtain _ | ⟨a, _ | ⟨b, _ | ⟨_, _⟩⟩⟩ := l <;> simp only [List.length_cons, List.length_nil] at hl <;> try omega
    unfold srcs at hall
    rw [if_pos k3] at hall
    obtain ⟨x, p1, rfl, e1, f1⟩ := src_at (List.all_eq_true.mp hall a (by simp))
    obtain ⟨y, p2, rfl, e2, f2⟩ := src_at (List.all_eq_true.mp hall b (by simp))
    obtain ⟨M, m1, m2⟩ := hG _ _ e1
    obtain ⟨N, n1, n2⟩ := hG _ _ e2
    refine ⟨x, y, M, N, p1, p2, rfl, m1, n1, m2, n2, ?_⟩
    rw [← hf]
    show _ = fitD k _ (shAt shs ((x : Nat) : Int)) (shAt shs ((y : Nat) : Int))
    rw [f1, f2]
  have one : kindLen.lookup k ≠ some 3 → ∀ a r, l = a :: r → ∃ (x : Nat) (M : BM) (p1 p2 : Sh), a = (x : Int) ∧ G x = some M ∧ DimSh M p1 ∧ fitD k l p1 p2 = some q := fun k3 a r hl => by
    subst hl
    unfold srcs at hall
    rw [if_neg k3] at hall
    obtain ⟨x, p1, rfl, e1, f1⟩ := src_at (List.all_eq_true.mp hall a (by simp))
    obtain ⟨M, m1, m2⟩ := hG _ _ e1
    refine ⟨x, M, p1, shAt shs (((x : Int) :: r).getD 1 0), rfl, m1, m2, ?_⟩
    rw [← hf]
    show _ = fitD k _ (shAt shs ((x : Nat) : Int)) _
    rw [f1]
  have k1 : (l.length : Int) + 1 = 2 → ∃ a, l = [a] := fun h => by
    obtain _ | ⟨a, _ | ⟨b, _⟩⟩ := l <;> simp only [List.length_cons, List.length_nil] at h <;> first | omega | exact ⟨_, rfl⟩
  rcases kind_cases hk with ⟨rfl, e⟩ | ⟨rfl, e⟩ | ⟨rfl, e⟩ | ⟨rfl, e⟩ | ⟨rfl, e⟩ | ⟨rfl, e⟩ | ⟨rfl, e⟩
  · obtain ⟨a, b, M, N, p1, p2, rfl, gM, gN, ⟨x, y, rfl, d, x1, y1, x2, y2⟩, ⟨x', y', rfl, d', x1', y1', x2', y2'⟩, hq⟩ := two (by decide) e
    rw [fit_plus] at hq
    split at hq
    · rename_i e
      simp only [Prod.mk.injEq] at e
      obtain ⟨e1, e2⟩ := e
      obtain rfl : x = x' := by omega
      obtain rfl : y = y' := by omega
      cases hq
      exact ⟨_, .plus gM gN d d' x2 y2, x, y, rfl, dim_plusL d, x1, y1, x2, y2⟩
    · cases hq
  · obtain ⟨a, b, M, N, p1, p2, rfl, gM, gN, ⟨x, y, rfl, d, x1, y1, x2, y2⟩, ⟨x', y', rfl, d', x1', y1', x2', y2'⟩, hq⟩ := two (by decide) e
    rw [fit_times] at hq
    split at hq
    · rename_i e
      simp only at e
      obtain rfl : y = x' := by omega
      cases hq
      exact ⟨_, .times gM gN d d' y1 x2 y2 y2', x, y', rfl, dim_timesL d d' y1, x1, y1', x2, y2'⟩
    · cases hq
  · obtain ⟨a, rfl⟩ := k1 e
    obtain ⟨a, M, p1, p2, rfl, gM, ⟨x, y, rfl, d, x1, y1, x2, y2⟩, hq⟩ := one (by decide) _ _ rfl
    rw [fit_turned] at hq
    cases hq
    exact ⟨_, .turned gM d x1 x2 y2, y, x, rfl, dim_colsB d, y1, x1, y2, x2⟩
  · obtain ⟨a, b, M, N, p1, p2, rfl, gM, gN, ⟨x, y, rfl, d, x1, y1, x2, y2⟩, ⟨x', y', rfl, d', x1', y1', x2', y2'⟩, hq⟩ := two (by decide) e
    rw [fit_beside] at hq
    split at hq
    · rename_i e
      simp only at e
      obtain rfl : x = x' := by omega
      cases hq
      simp only at q1 q2
      exact ⟨_, .beside gM gN d d' x2 y2 y2', x, y + y', by simp, dim_beside d d', x1, by omega, x2, by omega⟩
    · cases hq
  · obtain ⟨a, b, M, N, p1, p2, rfl, gM, gN, ⟨x, y, rfl, d, x1, y1, x2, y2⟩, ⟨x', y', rfl, d', x1', y1', x2', y2'⟩, hq⟩ := two (by decide) e
    rw [fit_above] at hq
    split at hq
    · rename_i e
      simp only at e
      obtain rfl : y = y' := by omega
      cases hq
      simp only at q1 q2
      exact ⟨_, .above gM gN d d' x2 x2' y2, x + x', y, by simp, dim_above d d', by omega, y1, by omega, y2⟩
    · cases hq
  · have l5 : ∃ a i j r c, l = [a, i, j, r, c] := by
      have h := e
      obtain _ | ⟨a, _ | ⟨b, _ | ⟨c, _ | ⟨d, _ | ⟨e, _ | ⟨_, _⟩⟩⟩⟩⟩⟩ := l <;> simp only [List.length_cons, List.length_nil] at h <;> first | omega | exact ⟨_, _, _, _, _, rfl⟩
    obtain ⟨a, i, j, r, c, rfl⟩ := l5
    obtain ⟨a, M, p1, p2, rfl, gM, ⟨x, y, rfl, d, x1, y1, x2, y2⟩, hq⟩ := one (by decide) _ _ rfl
    rw [fit_piece] at hq
    unfold pieceD at hq
    split at hq
    · cases hq
    rename_i n1
    split at hq
    · cases hq
    rename_i n2
    cases hq
    simp only at n2
    obtain ⟨i, rfl⟩ := Int.eq_ofNat_of_zero_le (a := i) (by omega)
    obtain ⟨j, rfl⟩ := Int.eq_ofNat_of_zero_le (a := j) (by omega)
    obtain ⟨r, rfl⟩ := Int.eq_ofNat_of_zero_le (a := r) (by omega)
    obtain ⟨c, rfl⟩ := Int.eq_ofNat_of_zero_le (a := c) (by omega)
    have hr : i + r ≤ x := by omega
    have hc : j + c ≤ y := by omega
    exact ⟨_, .piece gM d hr hc (by omega) (by omega) x2 y2, r, c, rfl, dim_piece d hr hc, by omega, by omega, by omega, by omega⟩
  · obtain ⟨a, rfl⟩ := k1 e
    obtain ⟨a, M, p1, p2, rfl, gM, ⟨x, y, rfl, d, x1, y1, x2, y2⟩, hq⟩ := one (by decide) _ _ rfl
    rw [fit_star] at hq
    split at hq
    · rename_i e
      simp only at e
      obtain rfl : x = y := by omega
      cases hq
      exact ⟨_, .star gM d x1 x2, x, x, rfl, (dim_starL d x1).1, x1, x1, x2, x2⟩
    · cases hq
end PD
namespace PD
open PySem PySem.Spec PyProof.Rows L2 WarM
/-- the flags of a script's grids, by the law's own way: the given ones, then each step's -/
def gridD (C : Addr) (x : D × List (List D)) : D := .ins C ["bases", "rows"] [x.1, .tup (x.2.map .tup)]
/-- a script all of whose steps make flags: F the flags of all its grids -/
structure ScF (CG : Addr) (gs : List (D × List (List D))) (sts : List (Str × List Int)) (F : List BM) (r : List Sh) : Prop where
  one : 1 ≤ gs.length
  few : gs.length + sts.length ≤ 30
  len : F.length = gs.length + sts.length
  lr : r.length = gs.length + sts.length
  giv : ∀ (i : Nat) (x : D × List (List D)), gs[i]? = some x → F[i]? = some (x.2.map thereR) ∧ x.2.length ≤ 12 ∧ ∀ y ∈ x.2, y.length ≤ 12
  mks : ∀ (i : Nat) (s : Str × List Int), sts[i]? = some s → ∃ M, F[gs.length + i]? = some M ∧ MkB (fun a => if a < gs.length + i then F[a]? else none) s.1 s.2 M
  nl : ∀ x ∈ gs, (gridD CG x).nolst = true
  dim : ∀ (i : Nat) (M : BM) (p : Sh), F[i]? = some M → r[i]? = some p → ∃ a b : Nat, p = ((a : Int), (b : Int)) ∧ DimB M a b ∧ 1 ≤ a ∧ 1 ≤ b ∧ a ≤ 12 ∧ b ≤ 12
def scF (CS CG : Addr) (gs : List (D × List (List D))) (sts : List (Str × List Int)) (r : List Sh) : D := scD CS (.tup (gs.map (gridD CG))) (.tup (sts.map fun s => stD s.1 s.2)) r
theorem nolst_nref {d : D} : d.nref = true → d.nolst = true := by
  have all : ∀ n : Nat, ∀ d : D, sizeOf d < n → d.nref = true → d.nolst = true := fun n => by
    induction n with
    | zero => intro d h; omega
    | succ n ih =>
      intro d h hr
      cases d with
      | tup xs =>
        show D.nolsts xs = true
        have hr : D.nrefs xs = true := hr
        have hs : ∀ x ∈ xs, sizeOf x < n := fun x hx => by
          have := List.sizeOf_lt_of_mem hx
          simp at h
          omega
        clear h
        induction xs with
        | nil => rfl
        | cons x xs ihx =>
          simp only [D.nrefs, Bool.and_eq_true] at hr
          simp only [D.nolsts, Bool.and_eq_true]
          exact ⟨ih x (hs x List.mem_cons_self) hr.1, ihx hr.2 hr.2 fun y hy => hs y (List.mem_cons_of_mem _ hy)⟩
      | lst xs => simp [D.nref] at hr
      | ins _ _ xs => simp [D.nref] at hr
      | exc _ _ _ xs => simp [D.nref] at hr
      | xob _ _ xs => simp [D.nref] at hr
      | dic _ xs => simp [D.nref] at hr
      | _ => rfl
  exact all _ d (Nat.lt_succ_self _)
theorem nolsts_of {xs : List D} (h : ∀ x ∈ xs, x.nolst = true) : D.nolsts xs = true := by
  induction xs with
  | nil => rfl
  | cons x xs ih =>
    simp only [D.nolsts, Bool.and_eq_true]
    exact ⟨h x List.mem_cons_self, ih fun y hy => h y (List.mem_cons_of_mem _ hy)⟩
theorem gd_nolst {C : Addr} {n : Int} {m : Nat} {xs : List D} (g : Grd n m xs) : (gd C n xs).nolst = true := by
  have h : (D.tup xs).nolst = true := nolsts_of fun e he => by
    obtain ⟨cs, rfl, _, hc⟩ := g.row e he
    exact nolst_nref (nref_tup fun c h => cl_nref (hc c h))
  show ((D.int n).nolst && ((D.tup xs).nolst && true)) = true
  rw [h]
  rfl
/-- data by what they stand for -/
theorem map_of {α : Type} {f : α → D} {Q : α → Prop} : ∀ {l : List D}, (∀ e ∈ l, ∃ x, e = f x ∧ Q x) → ∃ xs : List α, l = xs.map f ∧ ∀ x ∈ xs, Q x
  | [], _ => ⟨[], rfl, fun _ h => by cases h⟩
  | e :: l, h => by
    obtain ⟨x, rfl, hx⟩ := h e List.mem_cons_self
    obtain ⟨xs, rfl, hxs⟩ := map_of (l := l) fun y hy => h y (List.mem_cons_of_mem _ hy)
    exact ⟨x :: xs, rfl, fun y hy => by
      rcases List.mem_cons.mp hy with rfl | hy
      · exact hx
      · exact hxs y hy⟩
/-- grids that a script may have -/
structure GsOk (n : Int) (gs : List (D × List (List D))) : Prop where
  one : 1 ≤ gs.length
  few : gs.length ≤ 6
  all : ∀ x ∈ gs, x.1 = .int n ∧ ∃ w, Grd n w (x.2.map .tup)
theorem GsOk.row {n : Int} {gs : List (D × List (List D))} (h : GsOk n gs) {x : D × List (List D)} (hx : x ∈ gs) : ∃ w : Nat, 1 ≤ x.2.length ∧ x.2.length ≤ 10 ∧ 1 ≤ w ∧ w ≤ 10 ∧ (∀ y ∈ x.2, y.length = w ∧ ∀ c ∈ y, isCl n c = true) ∧ ∀ CG, shG (gridD CG x) = ((x.2.length : Int), (w : Int)) := by
  obtain ⟨e, w, g⟩ := h.all x hx
  obtain ⟨b, rows⟩ := x
  have l1 := g.l1
  have l10 := g.l10
  rw [List.length_map] at l1 l10
  refine ⟨w, l1, l10, g.m1, g.m10, fun y hy => ?_, fun CG => ?_⟩
  · obtain ⟨cs, e, h1, h2⟩ := g.row (.tup y) (List.mem_map.mpr ⟨y, hy, rfl⟩)
    cases e
    exact ⟨h1, h2⟩
  · obtain ⟨cs, _, _, hh⟩ := g.head
    show (((rows.map D.tup).length : Int), ((rows.map D.tup).headD .non).len) = _
    rw [hh, List.length_map]
theorem dim_there {rows : List (List D)} {w : Nat} (h : ∀ y ∈ rows, y.length = w) : DimB (rows.map thereR) rows.length w := ⟨List.length_map _, fun r hr => by
  obtain ⟨y, hy, rfl⟩ := List.mem_map.mp hr
  unfold thereR
  rw [List.length_map, h y hy]⟩
theorem GsOk.dim {n : Int} {CG : Addr} {gs : List (D × List (List D))} (h : GsOk n gs) {x : D × List (List D)} (hx : x ∈ gs) : DimSh (x.2.map thereR) (shG (gridD CG x)) := by
  obtain ⟨w, a1, a2, a3, a4, a5, a6⟩ := h.row hx
  rw [a6]
  exact ⟨_, w, rfl, dim_there fun y hy => (a5 y hy).1, a1, a3, by omega, by omega⟩
theorem GsOk.nl {n : Int} {CG : Addr} {gs : List (D × List (List D))} (h : GsOk n gs) {x : D × List (List D)} (hx : x ∈ gs) : (gridD CG x).nolst = true := by
  obtain ⟨w, _, _, _, _, a5, _⟩ := h.row hx
  obtain ⟨e, _⟩ := h.all x hx
  show (x.1.nolst && (D.nolsts (x.2.map .tup) && true)) = true
  rw [e]
  simp only [D.nolst, Bool.true_and, Bool.and_true]
  refine nolsts_of fun y hy => ?_
  obtain ⟨r, hr, rfl⟩ := List.mem_map.mp hy
  exact nolst_nref (nref_tup fun c hc => cl_nref ((a5 r hr).2 c hc))
/-- the flags of the steps, one behind another -/
theorem run_ex : ∀ {sts : List (Str × List Int)} {shs r : List Sh} {F0 : List BM} {k : Nat}, F0.length = shs.length → (∀ (i : Nat) (M : BM) (p : Sh), F0[i]? = some M → shs[i]? = some p → DimSh M p) → (∀ s ∈ sts, kindLen.lookup s.1 = some ((s.2.length : Int) + 1)) → runS shs (sts.map fun s => stD s.1 s.2) k = .inl r →
    ∃ F1 : List BM, F1.length = sts.length ∧ r.length = shs.length + sts.length ∧ (∀ (i : Nat) (M : BM) (p : Sh), (F0 ++ F1)[i]? = some M → r[i]? = some p → DimSh M p) ∧ ∀ (i : Nat) (s : Str × List Int), sts[i]? = some s → ∃ M, F1[i]? = some M ∧ MkB (fun a => if a < F0.length + i then (F0 ++ F1)[a]? else none) s.1 s.2 M
  | [], shs, r, F0, k, hl, hd, _, hr => by
    cases hr
    exact ⟨[], rfl, rfl, by rw [List.append_nil]; exact hd, fun i s h => by cases h⟩
  | s :: sts, shs, r, F0, k, hl, hd, hk, hr => by
    have hr : (match madeD shs (stD s.1 s.2) with
      | none => .inr k
      | some p => runS (shs ++ [p]) (sts.map fun s => stD s.1 s.2) (k + 1)) = Sum.inl r := hr
    cases hm : madeD shs (stD s.1 s.2) with
    | none => rw [hm] at hr; cases hr
    | some p =>
      rw [hm] at hr
      obtain ⟨M, mk, dm⟩ := mk_ex (G := fun a => F0[a]?) (fun a q ha => by
        have hla : a < F0.length := by rw [hl]; exact (List.getElem?_eq_some_iff.mp ha).1
        exact ⟨_, List.getElem?_eq_getElem hla, hd a _ q (List.getElem?_eq_getElem hla) ha⟩) (hk s List.mem_cons_self) hm
      obtain ⟨F1, l1, lr, d1, m1⟩ := run_ex (sts := sts) (shs := shs ++ [p]) (F0 := F0 ++ [M]) (by rw [List.length_append, List.length_append, hl]; rfl) (fun i N q hN hq => by
        by_cases q1 : i < F0.length
        · rw [List.getElem?_append_left q1] at hN
          rw [List.getElem?_append_left (by rw [← hl]; exact q1)] at hq
          exact hd i N q hN hq
        · rw [List.getElem?_append_right (by omega)] at hN
          rw [List.getElem?_append_right (by rw [← hl]; omega)] at hq
          rw [← hl] at hq
          cases e : i - F0.length with
          | zero =>
            rw [e] at hN hq
            cases hN
            cases hq
            exact dm
          | succ j => rw [e] at hN; cases hN) (fun x hx => hk x (List.mem_cons_of_mem _ hx)) hr
      have ea : F0 ++ [M] ++ F1 = F0 ++ (M :: F1) := by simp
      rw [ea] at d1
      refine ⟨M :: F1, by simp [l1], by rw [lr, List.length_append]; simp; omega, d1, fun i t ht => ?_⟩
      cases i with
      | zero =>
        cases ht
        refine ⟨M, rfl, ?_⟩
        have ef : (fun a => if a < F0.length + 0 then (F0 ++ M :: F1)[a]? else none) = fun a => F0[a]? := by
          funext a
          by_cases q : a < F0.length
          · rw [if_pos (by omega), List.getElem?_append_left q]
          · rw [if_neg (by omega), List.getElem?_eq_none (by omega)]
        rw [ef]
        exact mk
      | succ i =>
        obtain ⟨N, hN, mN⟩ := m1 i t ht
        refine ⟨N, hN, ?_⟩
        rw [ea] at mN
        have el : (F0 ++ [M]).length + i = F0.length + (i + 1) := by rw [List.length_append]; simp; omega
        rw [el] at mN
        exact mN
theorem scf_ex {n : Int} {CG : Addr} {gs : List (D × List (List D))} {sts : List (Str × List Int)} {r : List Sh} (h : GsOk n gs) (hf : sts.length ≤ 16) (hk : ∀ s ∈ sts, kindLen.lookup s.1 = some ((s.2.length : Int) + 1)) (hr : runS (gs.map fun x => shG (gridD CG x)) (sts.map fun s => stD s.1 s.2) 0 = .inl r) : ∃ F, ScF CG gs sts F r := by
  obtain ⟨F1, l1, lr, d1, m1⟩ := run_ex (F0 := gs.map fun x => x.2.map thereR) (by rw [List.length_map, List.length_map]) (fun i M p hM hp => by
    rw [List.getElem?_map] at hM hp
    cases e : gs[i]? with
    | none => rw [e] at hM; cases hM
    | some x =>
      rw [e] at hM hp
      cases hM
      cases hp
      exact h.dim (List.mem_of_getElem? e)) hk hr
  rw [List.length_map] at lr m1
  have few := h.few
  refine ⟨_, h.one, by omega, by rw [List.length_append, List.length_map, l1], lr, fun i x hx => ?_, fun i s hs => ?_, fun x hx => h.nl hx, d1⟩
  · obtain ⟨w, a1, a2, a3, a4, a5, a6⟩ := h.row (List.mem_of_getElem? hx)
    have hi := (List.getElem?_eq_some_iff.mp hx).1
    refine ⟨?_, by omega, fun y hy => by rw [(a5 y hy).1]; omega⟩
    rw [List.getElem?_append_left (by rw [List.length_map]; exact hi), List.getElem?_map, hx]
    rfl
  · obtain ⟨M, hM, mM⟩ := m1 i s hs
    refine ⟨M, ?_, mM⟩
    rw [List.getElem?_append_right (by rw [List.length_map]; omega), List.length_map, Nat.add_sub_cancel_left]
    exact hM
end PD
namespace PD
open PySem PySem.Spec PyProof.Rows L2 WarM
theorem Grd.items {n : Int} {m : Nat} {xs : List D} (g : Grd n m xs) : (xs.map PD.items).map D.tup = xs := by
  rw [List.map_map]
  refine (List.map_congr_left fun x hx => ?_).trans (List.map_id xs)
  obtain ⟨ds, rfl, _⟩ := g.row x hx
  rfl
/-- one cell told anew -/
def tellC (gs : List (D × List (List D))) (a i j : Nat) (x : D × List (List D)) (cs : List D) (t : D) : List (D × List (List D)) := gs.set a (x.1, x.2.set i (cs.set j t))
theorem grid_shG {n : Int} {w : Nat} {CG : Addr} {x : D × List (List D)} (g : Grd n w (x.2.map .tup)) : shG (gridD CG x) = ((x.2.length : Int), (w : Int)) := by
  obtain ⟨cs, _, _, hh⟩ := g.head
  show (((x.2.map D.tup).length : Int), ((x.2.map D.tup).headD .non).len) = _
  rw [hh, List.length_map]
theorem GsOk.set {n : Int} {gs : List (D × List (List D))} {a i j : Nat} {x : D × List (List D)} {cs : List D} {t : D} (h : GsOk n gs) (ha : gs[a]? = some x) (hi : x.2[i]? = some cs) (ht : isCl n t = true) :
    GsOk n (tellC gs a i j x cs t) ∧ ∀ CG, (tellC gs a i j x cs t).map (fun x => shG (gridD CG x)) = gs.map fun x => shG (gridD CG x) := by
  obtain ⟨e, w, g⟩ := h.all x (List.mem_of_getElem? ha)
  have hi2 : (x.2.map D.tup)[i]? = some (.tup cs) := by rw [List.getElem?_map, hi]; rfl
  have g2 := g.set (j := j) hi2 ht
  have es : (x.2.map D.tup).set i (.tup (cs.set j t)) = (x.2.set i (cs.set j t)).map .tup := by rw [List.map_set]
  rw [es] at g2
  refine ⟨⟨by unfold tellC; rw [List.length_set]; exact h.one, by unfold tellC; rw [List.length_set]; exact h.few, fun y hy => ?_⟩, fun CG => ?_⟩
  · rcases List.mem_or_eq_of_mem_set hy with hy | rfl
    · exact h.all y hy
    · exact ⟨e, w, g2⟩
  · unfold tellC
    rw [List.map_set]
    apply List.ext_getElem?
    intro k
    rw [List.getElem?_set]
    split
    · rename_i q
      subst q
      have al := (List.getElem?_eq_some_iff.mp ha).1
      rw [if_pos (by rw [List.length_map]; exact al), List.getElem?_map, ha]
      show some _ = some (shG (gridD CG x))
      rw [grid_shG g, grid_shG (x := (x.1, x.2.set i (cs.set j t))) g2, List.length_set]
    · rfl
end PD
set_option Elab.async false
set_option linter.all false
set_option maxRecDepth 100000
set_option maxHeartbeats 4000000
namespace PDSR
end PDSR
namespace WarM
end WarM
namespace Lk12
open PySem PySem.Spec PyProof.Rows L2 PD PDX PDI PDT PDZ PDSR WarM
/-- the next steps of a reading, by its form -/
local macro_rules | `(tactic| walk_at "pd1") => `(tactic| with_reducible (first | refine sx_drop ?_ | refine sx_ret ?_ | refine sd_seq ?_ | refine sd_next ?_ | refine sd_ret ?_ | refine sd_asg ?_ | refine sd_if ?_ | refine sd_drop ?_ | refine sd_par ?_ | refine sd_retN ?_ | refine ev_op ?_ | refine ev_int ?_ | refine ev_bl ?_ | refine ev_non ?_ | refine ev_str ?_ | refine ev_ty ?_ | refine ev_obj ?_ | refine ev_un ?_ | refine ev_cb ?_ | refine ev_call ?_ | refine ev_tup ?_ | refine ev_lst ?_ | refine ev_dnew ?_ | refine ev_disp1 ?_ | refine ev_make ?_ | refine ev_sl ?_ | refine ev_slL ?_ | refine eo_none ?_ | refine eo_some ?_ | refine ev_andV ?_ | refine ev_orV ?_ | refine ev_notV ?_ | refine ev_if ?_ | refine ev_chain ?_ | refine et_B ?_ | refine et_test ?_ | refine et_and ?_ | refine et_or ?_ | refine et_not ?_ | refine ea_nil ?_ | refine ea_cons ?_ | refine rd_plusI ?_ | refine rd_eqI ?_ | refine rd_neI ?_ | refine rd_eqSh ?_ | refine rd_neS (by first | assumption | decide +kernel) (by decide +kernel) ?_ | refine rd_eqS (by first | assumption | decide +kernel) (by decide +kernel) ?_ | refine rc_max2 ?_ | refine rc_min2 ?_ | refine rc_gcd ?_ | refine rc_abs ?_ | refine rc_int1 ?_ | refine rc_tupL ?_ | refine rc_lenT ?_ | refine rc_lenL ?_))
local macro_rules | `(tactic| walk_at "pd2") => `(tactic| first | refine ev_var rfl ?_ | refine rd_I0 ?_ | refine rd_I0b ?_ | refine ru_I ?_ | refine rd_isN ?_ | refine rd_notN ?_ | refine rd_ixT (j := 0) rfl rfl ?_ | refine rd_ixT (j := 1) rfl rfl ?_ | refine rd_ixL (j := 0) rfl rfl ?_ | refine rd_ixL (j := 1) rfl rfl ?_ | refine rd_I ?_ ?_)
local macro_rules | `(tactic| walk_at "pd3") => `(tactic| first | refine exb_t rfl ?_ | refine exb_f rfl ?_ | refine exo_f rfl ?_ | refine exo_t rfl ?_ | refine bt rfl ?_ | refine bf rfl ?_ | refine bof rfl ?_ | refine bot rfl ?_ | (with_reducible refine exb ?_) | refine And.intro (Nat.le_of_ble_eq_true rfl) ?_)
local macro_rules | `(tactic| walk_at "pd4") => `(tactic| first | refine rc_isiIJ (by first | assumption | rfl) ?_ | refine rc_isiBJ (by first | assumption | rfl) ?_ | refine rc_isiTJ (by first | assumption | rfl) ?_ | refine rc_isiSJ (by first | assumption | rfl) ?_ | refine rc_isiI (by first | assumption | rfl) ?_ | refine rc_isiB (by first | assumption | rfl) ?_ | refine rc_isiT (by first | assumption | rfl) ?_)
local macro_rules | `(tactic| walk_at "pd5") => `(tactic| with_reducible (refine rd_I (C := CPow) (cpow_ok (by decide)) ?_))
local macro_rules | `(tactic| walk_at "pd") => `(tactic| repeat' (first | walk_at "pd1" | walk_at "pd5" | walk_at "pd4" | walk_at "pd2" | walk_at "pd3"))
local macro_rules | `(tactic| walk_at "pdE") => `(tactic| repeat' (first | walk_at "pd5" | walk_at "pd4" | walk_at "pd2" | walk_at "pd3" | with_reducible (first | refine ev_op ?_ | refine ev_int ?_ | refine ev_bl ?_ | refine ev_tup ?_ | refine ea_nil ?_ | refine ea_cons ?_)))
def topS (i : Nat) : Stmt := PySem.Challenge.pw_unitgrids_k12_scripts_refused.main.body.getD i (.Pass ⟨0, 0, 0, 0⟩)
abbrev s__law_state : Stmt := topS 63
theorem sc__law_state : FnScope ["script", "turn"] ["script", "turn"] (defScope s__law_state) := ⟨rfl, rfl, rfl, by decide +kernel, rfl, by decide +kernel, by decide +kernel⟩
abbrev s__law_mixed : Stmt := topS 64
theorem sc__law_mixed : FnScope ["number", "more"] ["number", "more"] (defScope s__law_mixed) := ⟨rfl, rfl, rfl, by decide +kernel, rfl, by decide +kernel, by decide +kernel⟩
abbrev s__law_draw : Stmt := topS 65
theorem sc__law_draw : FnScope ["state", "many", "taken", "found"] ["state", "many"] (defScope s__law_draw) := ⟨rfl, rfl, rfl, by decide +kernel, rfl, by decide +kernel, by decide +kernel⟩
abbrev s__law_fit : Stmt := topS 75
theorem sc__law_fit : FnScope ["step", "one", "other", "word"] ["step", "one", "other"] (defScope s__law_fit) := ⟨rfl, rfl, rfl, by decide +kernel, rfl, by decide +kernel, by decide +kernel⟩
abbrev s__law_is_integer : Stmt := topS 62
theorem sc__law_is_integer : FnScope ["thing"] ["thing"] (defScope s__law_is_integer) := ⟨rfl, rfl, rfl, by decide +kernel, rfl, by decide +kernel, by decide +kernel⟩
abbrev s__law_made : Stmt := topS 76
theorem sc__law_made : FnScope ["step", "shapes", "counts", "other", "made", "item"] ["step", "shapes"] (defScope s__law_made) := ⟨rfl, rfl, rfl, by decide +kernel, rfl, by decide +kernel, by decide +kernel⟩
abbrev s__law_step : Stmt := topS 77
theorem sc__law_step : FnScope ["state", "shapes", "word", "one", "step", "i", "j", "rows", "fits", "at"] ["state", "shapes"] (defScope s__law_step) := ⟨rfl, rfl, rfl, by decide +kernel, rfl, by decide +kernel, by decide +kernel⟩
abbrev s__law_steps : Stmt := topS 78
theorem sc__law_steps : FnScope ["state", "shapes", "many", "found", "k", "step"] ["state", "shapes", "many"] (defScope s__law_steps) := ⟨rfl, rfl, rfl, by decide +kernel, rfl, by decide +kernel, by decide +kernel⟩
abbrev s__law_low : Stmt := topS 66
theorem sc__law_low : FnScope ["upper", "lower", "one", "other", "rest"] ["upper", "lower"] (defScope s__law_low) := ⟨rfl, rfl, rfl, by decide +kernel, rfl, by decide +kernel, by decide +kernel⟩
abbrev s__law_exponent : Stmt := topS 67
theorem sc__law_exponent : FnScope ["state", "lower"] ["state"] (defScope s__law_exponent) := ⟨rfl, rfl, rfl, by decide +kernel, rfl, by decide +kernel, by decide +kernel⟩
abbrev s__law_unit : Stmt := topS 68
theorem sc__law_unit : FnScope ["state", "bases", "k"] ["state", "bases"] (defScope s__law_unit) := ⟨rfl, rfl, rfl, by decide +kernel, rfl, by decide +kernel, by decide +kernel⟩
abbrev s__law_cell : Stmt := topS 70
theorem sc__law_cell : FnScope ["state", "bases", "share"] ["state", "bases", "share"] (defScope s__law_cell) := ⟨rfl, rfl, rfl, by decide +kernel, rfl, by decide +kernel, by decide +kernel⟩
abbrev s__law_rows : Stmt := topS 69
theorem sc__law_rows : FnScope ["state", "bases", "rows", "columns", "share", "i", "j"] ["state", "bases", "rows", "columns", "share"] (defScope s__law_rows) := ⟨rfl, rfl, rfl, by decide +kernel, rfl, by decide +kernel, by decide +kernel⟩
abbrev s__has_grid_length : Stmt := topS 39
theorem sc__has_grid_length : FnScope ["thing"] ["thing"] (defScope s__has_grid_length) := ⟨rfl, rfl, rfl, by decide +kernel, rfl, by decide +kernel, by decide +kernel⟩
abbrev s_is_whole : Stmt := topS 2
theorem sc_is_whole : FnScope ["thing"] ["thing"] (defScope s_is_whole) := ⟨rfl, rfl, rfl, by decide +kernel, rfl, by decide +kernel, by decide +kernel⟩
abbrev s_is_pair : Stmt := topS 4
theorem sc_is_pair : FnScope ["thing"] ["thing"] (defScope s_is_pair) := ⟨rfl, rfl, rfl, by decide +kernel, rfl, by decide +kernel, by decide +kernel⟩
abbrev s_is_fraction : Stmt := topS 5
theorem sc_is_fraction : FnScope ["thing", "top", "bottom"] ["thing"] (defScope s_is_fraction) := ⟨rfl, rfl, rfl, by decide +kernel, rfl, by decide +kernel, by decide +kernel⟩
abbrev s_is_any_unit : Stmt := topS 31
theorem sc_is_any_unit : FnScope ["thing", "exponent"] ["thing"] (defScope s_is_any_unit) := ⟨rfl, rfl, rfl, by decide +kernel, rfl, by decide +kernel, by decide +kernel⟩
abbrev s_is_unit : Stmt := topS 32
theorem sc_is_unit : FnScope ["bases", "thing"] ["bases", "thing"] (defScope s_is_unit) := ⟨rfl, rfl, rfl, by decide +kernel, rfl, by decide +kernel, by decide +kernel⟩
abbrev s_is_cell : Stmt := topS 38
theorem sc_is_cell : FnScope ["bases", "thing", "top", "below"] ["bases", "thing"] (defScope s_is_cell) := ⟨rfl, rfl, rfl, by decide +kernel, rfl, by decide +kernel, by decide +kernel⟩
abbrev s__wrong_part : Stmt := topS 40
theorem sc__wrong_part : FnScope ["bases", "rows", "i", "row", "j", "thing"] ["bases", "rows"] (defScope s__wrong_part) := ⟨rfl, rfl, rfl, by decide +kernel, rfl, by decide +kernel, by decide +kernel⟩
abbrev s_BadGrid___init__ : Stmt := mthS (topS 24) 0
theorem sc_BadGrid___init__ : FnScope ["self", "part"] ["self", "part"] (defScope s_BadGrid___init__) := ⟨rfl, rfl, rfl, by decide +kernel, rfl, by decide +kernel, by decide +kernel⟩
abbrev s_Grid___init__ : Stmt := mthS (topS 37) 0
theorem sc_Grid___init__ : FnScope ["self", "bases", "rows", "part"] ["self", "bases", "rows"] (defScope s_Grid___init__) := ⟨rfl, rfl, rfl, by decide +kernel, rfl, by decide +kernel, by decide +kernel⟩
abbrev s__law_grid : Stmt := topS 79
theorem sc__law_grid : FnScope ["state", "bases", "many", "rows"] ["state", "bases", "many"] (defScope s__law_grid) := ⟨rfl, rfl, rfl, by decide +kernel, rfl, by decide +kernel, by decide +kernel⟩
abbrev s__law_odd : Stmt := topS 74
theorem sc__law_odd : FnScope ["state", "deep", "k", "first", "second", "third", "things"] ["state"] (defScope s__law_odd) := ⟨rfl, rfl, rfl, by decide +kernel, rfl, by decide +kernel, by decide +kernel⟩
abbrev s__law_place : Stmt := topS 80
theorem sc__law_place : FnScope ["state", "many", "kind"] ["state", "many"] (defScope s__law_place) := ⟨rfl, rfl, rfl, by decide +kernel, rfl, by decide +kernel, by decide +kernel⟩
abbrev s__law_thing : Stmt := topS 82
theorem sc__law_thing : FnScope ["state", "bases", "kind", "edge", "unit"] ["state", "bases"] (defScope s__law_thing) := ⟨rfl, rfl, rfl, by decide +kernel, rfl, by decide +kernel, by decide +kernel⟩
abbrev s__law_is_place : Stmt := topS 81
theorem sc__law_is_place : FnScope ["thing", "many"] ["thing", "many"] (defScope s__law_is_place) := ⟨rfl, rfl, rfl, by decide +kernel, rfl, by decide +kernel, by decide +kernel⟩
abbrev s__law_spot : Stmt := topS 88
theorem sc__law_spot : FnScope ["shapes", "most", "at", "i", "j"] ["shapes", "most", "at", "i", "j"] (defScope s__law_spot) := ⟨rfl, rfl, rfl, by decide +kernel, rfl, by decide +kernel, by decide +kernel⟩
abbrev s__law_some_step : Stmt := topS 83
theorem sc__law_some_step : FnScope ["state", "shapes", "step", "kind", "at", "wrong", "other"] ["state", "shapes"] (defScope s__law_some_step) := ⟨rfl, rfl, rfl, by decide +kernel, rfl, by decide +kernel, by decide +kernel⟩
abbrev s__law_some_order : Stmt := topS 84
theorem sc__law_some_order : FnScope ["state", "many", "left", "found", "k", "at", "kind", "odd", "right", "changed"] ["state", "many"] (defScope s__law_some_order) := ⟨rfl, rfl, rfl, by decide +kernel, rfl, by decide +kernel, by decide +kernel⟩
abbrev s__shape_of_two : Stmt := topS 15
theorem sc__shape_of_two : FnScope ["kind", "one", "other"] ["kind", "one", "other"] (defScope s__shape_of_two) := ⟨rfl, rfl, rfl, by decide +kernel, rfl, by decide +kernel, by decide +kernel⟩
abbrev s__piece_shape : Stmt := topS 14
theorem sc__piece_shape : FnScope ["step", "rows", "columns", "first_row", "first_column", "high", "wide"] ["step", "rows", "columns"] (defScope s__piece_shape) := ⟨rfl, rfl, rfl, by decide +kernel, rfl, by decide +kernel, by decide +kernel⟩
abbrev s__fitting_shape : Stmt := topS 13
theorem sc__fitting_shape : FnScope ["step", "shapes", "rows", "columns"] ["step", "shapes"] (defScope s__fitting_shape) := ⟨rfl, rfl, rfl, by decide +kernel, rfl, by decide +kernel, by decide +kernel⟩
abbrev s_is_index : Stmt := topS 3
theorem sc_is_index : FnScope ["thing", "many"] ["thing", "many"] (defScope s_is_index) := ⟨rfl, rfl, rfl, by decide +kernel, rfl, by decide +kernel, by decide +kernel⟩
abbrev s_sources : Stmt := topS 10
theorem sc_sources : FnScope ["step"] ["step"] (defScope s_sources) := ⟨rfl, rfl, rfl, by decide +kernel, rfl, by decide +kernel, by decide +kernel⟩
abbrev s_is_step : Stmt := topS 11
theorem sc_is_step : FnScope ["thing", "many", "number"] ["thing", "many"] (defScope s_is_step) := ⟨rfl, rfl, rfl, by decide +kernel, rfl, by decide +kernel, by decide +kernel⟩
abbrev s_made_shape : Stmt := topS 12
theorem sc_made_shape : FnScope ["shapes", "thing", "shape", "number"] ["shapes", "thing"] (defScope s_made_shape) := ⟨rfl, rfl, rfl, by decide +kernel, rfl, by decide +kernel, by decide +kernel⟩
abbrev s_BadScript___init__ : Stmt := mthS (topS 26) 0
theorem sc_BadScript___init__ : FnScope ["self", "part"] ["self", "part"] (defScope s_BadScript___init__) := ⟨rfl, rfl, rfl, by decide +kernel, rfl, by decide +kernel, by decide +kernel⟩
abbrev s__shapes_made : Stmt := topS 49
theorem sc__shapes_made : FnScope ["shapes", "steps", "found", "index", "step", "made"] ["shapes", "steps"] (defScope s__shapes_made) := ⟨rfl, rfl, rfl, by decide +kernel, rfl, by decide +kernel, by decide +kernel⟩
abbrev s__are_grids : Stmt := topS 47
theorem sc__are_grids : FnScope ["thing", "grid"] ["thing"] (defScope s__are_grids) := ⟨rfl, rfl, rfl, by decide +kernel, rfl, by decide +kernel, by decide +kernel⟩
abbrev s__shape_put_in : Stmt := topS 48
theorem sc__shape_put_in : FnScope ["grid"] ["grid"] (defScope s__shape_put_in) := ⟨rfl, rfl, rfl, by decide +kernel, rfl, by decide +kernel, by decide +kernel⟩
abbrev s_Script___init__ : Stmt := mthS (topS 46) 0
theorem sc_Script___init__ : FnScope ["self", "grids", "steps", "grid"] ["self", "grids", "steps"] (defScope s_Script___init__) := ⟨rfl, rfl, rfl, by decide +kernel, rfl, by decide +kernel, by decide +kernel⟩
abbrev s_fitting_script : Stmt := topS 50
theorem sc_fitting_script : FnScope ["grids", "steps", "shapes", "script"] ["grids", "steps", "shapes"] (defScope s_fitting_script) := ⟨rfl, rfl, rfl, by decide +kernel, rfl, by decide +kernel, by decide +kernel⟩
abbrev s__is_order : Stmt := topS 58
theorem sc__is_order : FnScope ["thing", "many", "number"] ["thing", "many"] (defScope s__is_order) := ⟨rfl, rfl, rfl, by decide +kernel, rfl, by decide +kernel, by decide +kernel⟩
abbrev s_many_grids : Stmt := topS 51
theorem sc_many_grids : FnScope ["script"] ["script"] (defScope s_many_grids) := ⟨rfl, rfl, rfl, by decide +kernel, rfl, by decide +kernel, by decide +kernel⟩
abbrev s__renumbered_step : Stmt := topS 59
theorem sc__renumbered_step : FnScope ["step", "numbers", "named", "number"] ["step", "numbers"] (defScope s__renumbered_step) := ⟨rfl, rfl, rfl, by decide +kernel, rfl, by decide +kernel, by decide +kernel⟩
abbrev s_GridError___init__ : Stmt := mthS (topS 22) 0
theorem sc_GridError___init__ : FnScope ["self"] ["self"] (defScope s_GridError___init__) := ⟨rfl, rfl, rfl, by decide +kernel, rfl, by decide +kernel, by decide +kernel⟩
abbrev s_renamed : Stmt := topS 60
theorem sc_renamed : FnScope ["script", "order", "many", "numbers", "steps", "grids", "shapes", "new", "old", "step"] ["script", "order"] (defScope s_renamed) := ⟨rfl, rfl, rfl, by decide +kernel, rfl, by decide +kernel, by decide +kernel⟩
abbrev s_check_grid : Stmt := topS 52
theorem sc_check_grid : FnScope ["script", "at"] ["script", "at"] (defScope s_check_grid) := ⟨rfl, rfl, rfl, by decide +kernel, rfl, by decide +kernel, by decide +kernel⟩
abbrev s_shape : Stmt := topS 54
theorem sc_shape : FnScope ["script", "at"] ["script", "at"] (defScope s_shape) := ⟨rfl, rfl, rfl, by decide +kernel, rfl, by decide +kernel, by decide +kernel⟩
abbrev s_check_cell : Stmt := topS 53
theorem sc_check_cell : FnScope ["script", "at", "i", "j", "rows", "columns"] ["script", "at", "i", "j"] (defScope s_check_cell) := ⟨rfl, rfl, rfl, by decide +kernel, rfl, by decide +kernel, by decide +kernel⟩
abbrev s_Cells___init__ : Stmt := mthS (topS 20) 0
theorem sc_Cells___init__ : FnScope ["self"] ["self"] (defScope s_Cells___init__) := ⟨rfl, rfl, rfl, by decide +kernel, rfl, by decide +kernel, by decide +kernel⟩
abbrev s_leading : Stmt := topS 19
theorem sc_leading : FnScope ["script", "at", "many", "leads", "number", "source"] ["script", "at"] (defScope s_leading) := ⟨rfl, rfl, rfl, by decide +kernel, rfl, by decide +kernel, by decide +kernel⟩
abbrev s_turned : Stmt := topS 16
theorem sc_turned : FnScope ["rows", "column"] ["rows"] (defScope s_turned) := ⟨rfl, rfl, rfl, by decide +kernel, rfl, by decide +kernel, by decide +kernel⟩
abbrev s_moved : Stmt := topS 17
theorem sc_moved : FnScope ["step", "grids", "one", "first_row", "first_column", "high", "wide", "row", "left", "right"] ["step", "grids"] (defScope s_moved) := ⟨rfl, rfl, rfl, by decide +kernel, rfl, by decide +kernel, by decide +kernel⟩
abbrev s_Cells_product_of : Stmt := mthS (topS 20) 3
theorem sc_Cells_product_of : FnScope ["self", "one", "other"] ["self", "one", "other"] (defScope s_Cells_product_of) := ⟨rfl, rfl, rfl, by decide +kernel, rfl, by decide +kernel, by decide +kernel⟩
abbrev s_Cells_sum_of : Stmt := mthS (topS 20) 2
theorem sc_Cells_sum_of : FnScope ["self", "one", "other"] ["self", "one", "other"] (defScope s_Cells_sum_of) := ⟨rfl, rfl, rfl, by decide +kernel, rfl, by decide +kernel, by decide +kernel⟩
abbrev s_Cells_inner : Stmt := mthS (topS 20) 11
theorem sc_Cells_inner : FnScope ["self", "row", "column", "total", "first", "second"] ["self", "row", "column"] (defScope s_Cells_inner) := ⟨rfl, rfl, rfl, by decide +kernel, rfl, by decide +kernel, by decide +kernel⟩
abbrev s_Cells_products : Stmt := mthS (topS 20) 10
theorem sc_Cells_products : FnScope ["self", "one", "other", "columns", "row", "column"] ["self", "one", "other"] (defScope s_Cells_products) := ⟨rfl, rfl, rfl, by decide +kernel, rfl, by decide +kernel, by decide +kernel⟩
abbrev s_Cells_powers_of : Stmt := mthS (topS 20) 4
theorem sc_Cells_powers_of : FnScope ["self", "one"] ["self", "one"] (defScope s_Cells_powers_of) := ⟨rfl, rfl, rfl, by decide +kernel, rfl, by decide +kernel, by decide +kernel⟩
abbrev s_Cells_with_paths : Stmt := mthS (topS 20) 13
theorem sc_Cells_with_paths : FnScope ["self", "row", "to_place", "around", "from_place", "begun", "there", "further"] ["self", "row", "to_place", "around", "from_place"] (defScope s_Cells_with_paths) := ⟨rfl, rfl, rfl, by decide +kernel, rfl, by decide +kernel, by decide +kernel⟩
abbrev s_Cells_stars : Stmt := mthS (topS 20) 12
theorem sc_Cells_stars : FnScope ["self", "rows", "sums", "k", "around", "row"] ["self", "rows"] (defScope s_Cells_stars) := ⟨rfl, rfl, rfl, by decide +kernel, rfl, by decide +kernel, by decide +kernel⟩
abbrev s_Cells_sums : Stmt := mthS (topS 20) 9
theorem sc_Cells_sums : FnScope ["self", "one", "other", "row", "line", "first", "second"] ["self", "one", "other"] (defScope s_Cells_sums) := ⟨rfl, rfl, rfl, by decide +kernel, rfl, by decide +kernel, by decide +kernel⟩
abbrev s_Cells_rows_made : Stmt := mthS (topS 20) 8
theorem sc_Cells_rows_made : FnScope ["self", "step", "grids", "one"] ["self", "step", "grids"] (defScope s_Cells_rows_made) := ⟨rfl, rfl, rfl, by decide +kernel, rfl, by decide +kernel, by decide +kernel⟩
abbrev s_Cells_put_in : Stmt := mthS (topS 20) 1
theorem sc_Cells_put_in : FnScope ["self", "number", "i", "j", "unit"] ["self", "number", "i", "j", "unit"] (defScope s_Cells_put_in) := ⟨rfl, rfl, rfl, by decide +kernel, rfl, by decide +kernel, by decide +kernel⟩
abbrev s_Cells_rows_put_in : Stmt := mthS (topS 20) 7
theorem sc_Cells_rows_put_in : FnScope ["self", "number", "grid", "rows", "i", "row", "j", "unit"] ["self", "number", "grid"] (defScope s_Cells_rows_put_in) := ⟨rfl, rfl, rfl, by decide +kernel, rfl, by decide +kernel, by decide +kernel⟩
abbrev s_Cells_grids_of : Stmt := mthS (topS 20) 6
theorem sc_Cells_grids_of : FnScope ["self", "script", "wanted", "many", "grids", "number", "flag"] ["self", "script", "wanted"] (defScope s_Cells_grids_of) := ⟨rfl, rfl, rfl, by decide +kernel, rfl, by decide +kernel, by decide +kernel⟩
abbrev s_Cells_grids_to : Stmt := mthS (topS 20) 5
theorem sc_Cells_grids_to : FnScope ["self", "script", "at"] ["self", "script", "at"] (defScope s_Cells_grids_to) := ⟨rfl, rfl, rfl, by decide +kernel, rfl, by decide +kernel, by decide +kernel⟩
abbrev s_is_nought : Stmt := topS 55
theorem sc_is_nought : FnScope ["script", "at", "i", "j"] ["script", "at", "i", "j"] (defScope s_is_nought) := ⟨rfl, rfl, rfl, by decide +kernel, rfl, by decide +kernel, by decide +kernel⟩
abbrev s__check_place : Stmt := topS 41
theorem sc__check_place : FnScope ["grid", "i", "j"] ["grid", "i", "j"] (defScope s__check_place) := ⟨rfl, rfl, rfl, by decide +kernel, rfl, by decide +kernel, by decide +kernel⟩
abbrev s_retold : Stmt := topS 42
theorem sc_retold : FnScope ["grid", "i", "j", "thing", "rows", "row"] ["grid", "i", "j", "thing"] (defScope s_retold) := ⟨rfl, rfl, rfl, by decide +kernel, rfl, by decide +kernel, by decide +kernel⟩
abbrev s_retold_in : Stmt := topS 56
theorem sc_retold_in : FnScope ["script", "at", "i", "j", "thing", "grids"] ["script", "at", "i", "j", "thing"] (defScope s_retold_in) := ⟨rfl, rfl, rfl, by decide +kernel, rfl, by decide +kernel, by decide +kernel⟩
abbrev s_with_step : Stmt := topS 57
theorem sc_with_step : FnScope ["script", "step", "made"] ["script", "step"] (defScope s_with_step) := ⟨rfl, rfl, rfl, by decide +kernel, rfl, by decide +kernel, by decide +kernel⟩
abbrev s__law_called : Stmt := topS 86
theorem sc__law_called : FnScope ["which", "script", "told"] ["which", "script", "told"] (defScope s__law_called) := ⟨rfl, rfl, rfl, by decide +kernel, rfl, by decide +kernel, by decide +kernel⟩
abbrev s__law_found : Stmt := topS 87
theorem sc__law_found : FnScope ["which", "script", "told", "found", "e"] ["which", "script", "told"] (defScope s__law_found) := ⟨rfl, rfl, rfl, by decide +kernel, rfl, by decide +kernel, by decide +kernel⟩
abbrev s__law_is_fraction : Stmt := topS 71
theorem sc__law_is_fraction : FnScope ["thing"] ["thing"] (defScope s__law_is_fraction) := ⟨rfl, rfl, rfl, by decide +kernel, rfl, by decide +kernel, by decide +kernel⟩
abbrev s__law_is_unit : Stmt := topS 72
theorem sc__law_is_unit : FnScope ["bases", "thing", "item"] ["bases", "thing"] (defScope s__law_is_unit) := ⟨rfl, rfl, rfl, by decide +kernel, rfl, by decide +kernel, by decide +kernel⟩
abbrev s__law_is_cell : Stmt := topS 73
theorem sc__law_is_cell : FnScope ["bases", "thing", "exponent"] ["bases", "thing"] (defScope s__law_is_cell) := ⟨rfl, rfl, rfl, by decide +kernel, rfl, by decide +kernel, by decide +kernel⟩
abbrev s__law_is_order : Stmt := topS 85
theorem sc__law_is_order : FnScope ["thing", "many", "item"] ["thing", "many"] (defScope s__law_is_order) := ⟨rfl, rfl, rfl, by decide +kernel, rfl, by decide +kernel, by decide +kernel⟩
abbrev s__law_are_refused : Stmt := topS 89
theorem sc__law_are_refused : FnScope ["state", "made", "grids", "steps", "shapes", "at", "sizes", "i", "j", "thing", "due", "step", "order"] ["state", "made", "grids", "steps", "shapes"] (defScope s__law_are_refused) := ⟨rfl, rfl, rfl, by decide +kernel, rfl, by decide +kernel, by decide +kernel⟩
abbrev s_Grid___eq__ : Stmt := mthS (topS 37) 1
theorem sc_Grid___eq__ : FnScope ["self", "other"] ["self", "other"] (defScope s_Grid___eq__) := ⟨rfl, rfl, rfl, by decide +kernel, rfl, by decide +kernel, by decide +kernel⟩
abbrev s_law : Stmt := topS 90
theorem sc_law : FnScope ["script", "state", "bases", "many", "count", "grids", "shapes", "steps", "made", "k", "grid"] ["script"] (defScope s_law) := ⟨rfl, rfl, rfl, by decide +kernel, rfl, by decide +kernel, by decide +kernel⟩
structure Txt (K : PySem.W.Frag) (mg : Str → Option Value) where
  w0 : World
  D__law_state : DefT K mg "_law_state" s__law_state ["script", "turn"]
  D__law_mixed : DefT K mg "_law_mixed" s__law_mixed ["number", "more"]
  D__law_draw : DefT K mg "_law_draw" s__law_draw ["state", "many"]
  D__law_fit : DefT K mg "_law_fit" s__law_fit ["step", "one", "other"]
  D__law_is_integer : DefT K mg "_law_is_integer" s__law_is_integer ["thing"]
  D__law_made : DefT K mg "_law_made" s__law_made ["step", "shapes"]
  D__law_step : DefT K mg "_law_step" s__law_step ["state", "shapes"]
  D__law_steps : DefT K mg "_law_steps" s__law_steps ["state", "shapes", "many"]
  D__law_low : DefT K mg "_law_low" s__law_low ["upper", "lower"]
  D__law_exponent : DefT K mg "_law_exponent" s__law_exponent ["state"]
  D__law_unit : DefT K mg "_law_unit" s__law_unit ["state", "bases"]
  D__law_cell : DefT K mg "_law_cell" s__law_cell ["state", "bases", "share"]
  D__law_rows : DefT K mg "_law_rows" s__law_rows ["state", "bases", "rows", "columns", "share"]
  D__has_grid_length : DefT K mg "_has_grid_length" s__has_grid_length ["thing"]
  D_is_whole : DefT K mg "is_whole" s_is_whole ["thing"]
  D_is_pair : DefT K mg "is_pair" s_is_pair ["thing"]
  D_is_fraction : DefT K mg "is_fraction" s_is_fraction ["thing"]
  D_is_any_unit : DefT K mg "is_any_unit" s_is_any_unit ["thing"]
  D_is_unit : DefT K mg "is_unit" s_is_unit ["bases", "thing"]
  D_is_cell : DefT K mg "is_cell" s_is_cell ["bases", "thing"]
  D__wrong_part : DefT K mg "_wrong_part" s__wrong_part ["bases", "rows"]
  D_BadGrid___init__ : DefM K "__init__" "BadGrid.__init__" s_BadGrid___init__ ["self", "part"]
  D_Grid___init__ : DefM K "__init__" "Grid.__init__" s_Grid___init__ ["self", "bases", "rows"]
  D__law_grid : DefT K mg "_law_grid" s__law_grid ["state", "bases", "many"]
  D__law_odd : DefT K mg "_law_odd" s__law_odd ["state"]
  D__law_place : DefT K mg "_law_place" s__law_place ["state", "many"]
  D__law_thing : DefT K mg "_law_thing" s__law_thing ["state", "bases"]
  D__law_is_place : DefT K mg "_law_is_place" s__law_is_place ["thing", "many"]
  D__law_spot : DefT K mg "_law_spot" s__law_spot ["shapes", "most", "at", "i", "j"]
  D__law_some_step : DefT K mg "_law_some_step" s__law_some_step ["state", "shapes"]
  D__law_some_order : DefT K mg "_law_some_order" s__law_some_order ["state", "many"]
  D__shape_of_two : DefT K mg "_shape_of_two" s__shape_of_two ["kind", "one", "other"]
  D__piece_shape : DefT K mg "_piece_shape" s__piece_shape ["step", "rows", "columns"]
  D__fitting_shape : DefT K mg "_fitting_shape" s__fitting_shape ["step", "shapes"]
  D_is_index : DefT K mg "is_index" s_is_index ["thing", "many"]
  D_sources : DefT K mg "sources" s_sources ["step"]
  D_is_step : DefT K mg "is_step" s_is_step ["thing", "many"]
  D_made_shape : DefT K mg "made_shape" s_made_shape ["shapes", "thing"]
  D_BadScript___init__ : DefM K "__init__" "BadScript.__init__" s_BadScript___init__ ["self", "part"]
  D__shapes_made : DefT K mg "_shapes_made" s__shapes_made ["shapes", "steps"]
  D__are_grids : DefT K mg "_are_grids" s__are_grids ["thing"]
  D__shape_put_in : DefT K mg "_shape_put_in" s__shape_put_in ["grid"]
  D_Script___init__ : DefM K "__init__" "Script.__init__" s_Script___init__ ["self", "grids", "steps"]
  D_fitting_script : DefT K mg "fitting_script" s_fitting_script ["grids", "steps", "shapes"]
  D__is_order : DefT K mg "_is_order" s__is_order ["thing", "many"]
  D_many_grids : DefT K mg "many_grids" s_many_grids ["script"]
  D__renumbered_step : DefT K mg "_renumbered_step" s__renumbered_step ["step", "numbers"]
  D_GridError___init__ : DefM K "__init__" "GridError.__init__" s_GridError___init__ ["self"]
  D_renamed : DefT K mg "renamed" s_renamed ["script", "order"]
  D_check_grid : DefT K mg "check_grid" s_check_grid ["script", "at"]
  D_shape : DefT K mg "shape" s_shape ["script", "at"]
  D_check_cell : DefT K mg "check_cell" s_check_cell ["script", "at", "i", "j"]
  D_Cells___init__ : DefM K "__init__" "Cells.__init__" s_Cells___init__ ["self"]
  D_leading : DefT K mg "leading" s_leading ["script", "at"]
  D_turned : DefT K mg "turned" s_turned ["rows"]
  D_moved : DefT K mg "moved" s_moved ["step", "grids"]
  D_Cells_product_of : DefM K "product_of" "Cells.product_of" s_Cells_product_of ["self", "one", "other"]
  D_Cells_sum_of : DefM K "sum_of" "Cells.sum_of" s_Cells_sum_of ["self", "one", "other"]
  D_Cells_inner : DefM K "inner" "Cells.inner" s_Cells_inner ["self", "row", "column"]
  D_Cells_products : DefM K "products" "Cells.products" s_Cells_products ["self", "one", "other"]
  D_Cells_powers_of : DefM K "powers_of" "Cells.powers_of" s_Cells_powers_of ["self", "one"]
  D_Cells_with_paths : DefM K "with_paths" "Cells.with_paths" s_Cells_with_paths ["self", "row", "to_place", "around", "from_place"]
  D_Cells_stars : DefM K "stars" "Cells.stars" s_Cells_stars ["self", "rows"]
  D_Cells_sums : DefM K "sums" "Cells.sums" s_Cells_sums ["self", "one", "other"]
  D_Cells_rows_made : DefM K "rows_made" "Cells.rows_made" s_Cells_rows_made ["self", "step", "grids"]
  D_Cells_put_in : DefM K "put_in" "Cells.put_in" s_Cells_put_in ["self", "number", "i", "j", "unit"]
  D_Cells_rows_put_in : DefM K "rows_put_in" "Cells.rows_put_in" s_Cells_rows_put_in ["self", "number", "grid"]
  D_Cells_grids_of : DefM K "grids_of" "Cells.grids_of" s_Cells_grids_of ["self", "script", "wanted"]
  D_Cells_grids_to : DefM K "grids_to" "Cells.grids_to" s_Cells_grids_to ["self", "script", "at"]
  D_is_nought : DefT K mg "is_nought" s_is_nought ["script", "at", "i", "j"]
  D__check_place : DefT K mg "_check_place" s__check_place ["grid", "i", "j"]
  D_retold : DefT K mg "retold" s_retold ["grid", "i", "j", "thing"]
  D_retold_in : DefT K mg "retold_in" s_retold_in ["script", "at", "i", "j", "thing"]
  D_with_step : DefT K mg "with_step" s_with_step ["script", "step"]
  D__law_called : DefT K mg "_law_called" s__law_called ["which", "script", "told"]
  D__law_found : DefT K mg "_law_found" s__law_found ["which", "script", "told"]
  D__law_is_fraction : DefT K mg "_law_is_fraction" s__law_is_fraction ["thing"]
  D__law_is_unit : DefT K mg "_law_is_unit" s__law_is_unit ["bases", "thing"]
  D__law_is_cell : DefT K mg "_law_is_cell" s__law_is_cell ["bases", "thing"]
  D__law_is_order : DefT K mg "_law_is_order" s__law_is_order ["thing", "many"]
  D__law_are_refused : DefT K mg "_law_are_refused" s__law_are_refused ["state", "made", "grids", "steps", "shapes"]
  D_Grid___eq__ : DefM K "__eq__" "Grid.__eq__" s_Grid___eq__ ["self", "other"]
  D_law : DefT K mg "law" s_law ["script"]
  ty_BadGrid___init__ : PySem.W.typeIn K (.ref D_BadGrid___init__.f) = some (.type "function")
  ty_BadScript___init__ : PySem.W.typeIn K (.ref D_BadScript___init__.f) = some (.type "function")
  ty_GridError___init__ : PySem.W.typeIn K (.ref D_GridError___init__.f) = some (.type "function")
  x_GridError : ExcT K mg "GridError" D_GridError___init__.f
  x_NoUnit : ExcT K mg "NoUnit" D_GridError___init__.f
  x_BadGrid : ExcT K mg "BadGrid" D_BadGrid___init__.f
  x_NoCell : ExcT K mg "NoCell" D_GridError___init__.f
  x_BadScript : ExcT K mg "BadScript" D_BadScript___init__.f
  x_NoGrid : ExcT K mg "NoGrid" D_GridError___init__.f
  x_NoOrder : ExcT K mg "NoOrder" D_GridError___init__.f
  k_Cells : ClsT K mg "Cells" D_Cells___init__.f
  k_Grid : ClsT K mg "Grid" D_Grid___init__.f
  k_Script : ClsT K mg "Script" D_Script___init__.f
  i_Grid : IsiC K k_Grid.C
  q_Grid : EqT K k_Grid.C D_Grid___eq__.f
  mt_Cells_grids_of : Meth K k_Cells.C "grids_of" D_Cells_grids_of.f
  mt_Cells_grids_to : Meth K k_Cells.C "grids_to" D_Cells_grids_to.f
  mt_Cells_inner : Meth K k_Cells.C "inner" D_Cells_inner.f
  mt_Cells_powers_of : Meth K k_Cells.C "powers_of" D_Cells_powers_of.f
  mt_Cells_product_of : Meth K k_Cells.C "product_of" D_Cells_product_of.f
  mt_Cells_products : Meth K k_Cells.C "products" D_Cells_products.f
  mt_Cells_put_in : Meth K k_Cells.C "put_in" D_Cells_put_in.f
  mt_Cells_rows_made : Meth K k_Cells.C "rows_made" D_Cells_rows_made.f
  mt_Cells_rows_put_in : Meth K k_Cells.C "rows_put_in" D_Cells_rows_put_in.f
  mt_Cells_stars : Meth K k_Cells.C "stars" D_Cells_stars.f
  mt_Cells_sum_of : Meth K k_Cells.C "sum_of" D_Cells_sum_of.f
  mt_Cells_sums : Meth K k_Cells.C "sums" D_Cells_sums.f
  mt_Cells_with_paths : Meth K k_Cells.C "with_paths" D_Cells_with_paths.f
  na_Cells_nought : NoAttr K k_Cells.C "nought"
  na_Grid_bases : NoAttr K k_Grid.C "bases"
  na_Grid_rows : NoAttr K k_Grid.C "rows"
  na_Script_grids : NoAttr K k_Script.C "grids"
  na_Script_steps : NoAttr K k_Script.C "steps"
  na_Script_shapes : NoAttr K k_Script.C "shapes"
  xf_BadScript : XfC K x_BadScript.C
  nx_BadGrid_part : PySem.W.findIn K (.ref x_BadGrid.C) "part" = some none
  nx_BadScript_part : PySem.W.findIn K (.ref x_BadScript.C) "part" = some none
  em_GridError_NoGrid : PySem.W.exmOne K (.ref x_GridError.C) (.ref x_NoGrid.C) = some false
  em_GridError_NoCell : PySem.W.exmOne K (.ref x_GridError.C) (.ref x_NoCell.C) = some false
  em_GridError_NoUnit : PySem.W.exmOne K (.ref x_GridError.C) (.ref x_NoUnit.C) = some false
  em_GridError_NoOrder : PySem.W.exmOne K (.ref x_GridError.C) (.ref x_NoOrder.C) = some false
  em_GridError_BadScript : PySem.W.exmOne K (.ref x_GridError.C) (.ref x_BadScript.C) = some false
  em_GridError_GridError : PySem.W.exmOne K (.ref x_GridError.C) (.ref x_GridError.C) = some true
  em_NoUnit_NoGrid : PySem.W.exmOne K (.ref x_NoUnit.C) (.ref x_NoGrid.C) = some false
  em_NoUnit_NoCell : PySem.W.exmOne K (.ref x_NoUnit.C) (.ref x_NoCell.C) = some false
  em_NoUnit_NoUnit : PySem.W.exmOne K (.ref x_NoUnit.C) (.ref x_NoUnit.C) = some true
  em_NoUnit_NoOrder : PySem.W.exmOne K (.ref x_NoUnit.C) (.ref x_NoOrder.C) = some false
  em_NoUnit_BadScript : PySem.W.exmOne K (.ref x_NoUnit.C) (.ref x_BadScript.C) = some false
  em_NoUnit_GridError : PySem.W.exmOne K (.ref x_NoUnit.C) (.ref x_GridError.C) = some true
  em_BadGrid_NoGrid : PySem.W.exmOne K (.ref x_BadGrid.C) (.ref x_NoGrid.C) = some false
  em_BadGrid_NoCell : PySem.W.exmOne K (.ref x_BadGrid.C) (.ref x_NoCell.C) = some false
  em_BadGrid_NoUnit : PySem.W.exmOne K (.ref x_BadGrid.C) (.ref x_NoUnit.C) = some false
  em_BadGrid_NoOrder : PySem.W.exmOne K (.ref x_BadGrid.C) (.ref x_NoOrder.C) = some false
  em_BadGrid_BadScript : PySem.W.exmOne K (.ref x_BadGrid.C) (.ref x_BadScript.C) = some false
  em_BadGrid_GridError : PySem.W.exmOne K (.ref x_BadGrid.C) (.ref x_GridError.C) = some true
  em_NoCell_NoGrid : PySem.W.exmOne K (.ref x_NoCell.C) (.ref x_NoGrid.C) = some false
  em_NoCell_NoCell : PySem.W.exmOne K (.ref x_NoCell.C) (.ref x_NoCell.C) = some true
  em_NoCell_NoUnit : PySem.W.exmOne K (.ref x_NoCell.C) (.ref x_NoUnit.C) = some false
  em_NoCell_NoOrder : PySem.W.exmOne K (.ref x_NoCell.C) (.ref x_NoOrder.C) = some false
  em_NoCell_BadScript : PySem.W.exmOne K (.ref x_NoCell.C) (.ref x_BadScript.C) = some false
  em_NoCell_GridError : PySem.W.exmOne K (.ref x_NoCell.C) (.ref x_GridError.C) = some true
  em_BadScript_NoGrid : PySem.W.exmOne K (.ref x_BadScript.C) (.ref x_NoGrid.C) = some false
  em_BadScript_NoCell : PySem.W.exmOne K (.ref x_BadScript.C) (.ref x_NoCell.C) = some false
  em_BadScript_NoUnit : PySem.W.exmOne K (.ref x_BadScript.C) (.ref x_NoUnit.C) = some false
  em_BadScript_NoOrder : PySem.W.exmOne K (.ref x_BadScript.C) (.ref x_NoOrder.C) = some false
  em_BadScript_BadScript : PySem.W.exmOne K (.ref x_BadScript.C) (.ref x_BadScript.C) = some true
  em_BadScript_GridError : PySem.W.exmOne K (.ref x_BadScript.C) (.ref x_GridError.C) = some true
  em_NoGrid_NoGrid : PySem.W.exmOne K (.ref x_NoGrid.C) (.ref x_NoGrid.C) = some true
  em_NoGrid_NoCell : PySem.W.exmOne K (.ref x_NoGrid.C) (.ref x_NoCell.C) = some false
  em_NoGrid_NoUnit : PySem.W.exmOne K (.ref x_NoGrid.C) (.ref x_NoUnit.C) = some false
  em_NoGrid_NoOrder : PySem.W.exmOne K (.ref x_NoGrid.C) (.ref x_NoOrder.C) = some false
  em_NoGrid_BadScript : PySem.W.exmOne K (.ref x_NoGrid.C) (.ref x_BadScript.C) = some false
  em_NoGrid_GridError : PySem.W.exmOne K (.ref x_NoGrid.C) (.ref x_GridError.C) = some true
  em_NoOrder_NoGrid : PySem.W.exmOne K (.ref x_NoOrder.C) (.ref x_NoGrid.C) = some false
  em_NoOrder_NoCell : PySem.W.exmOne K (.ref x_NoOrder.C) (.ref x_NoCell.C) = some false
  em_NoOrder_NoUnit : PySem.W.exmOne K (.ref x_NoOrder.C) (.ref x_NoUnit.C) = some false
  em_NoOrder_NoOrder : PySem.W.exmOne K (.ref x_NoOrder.C) (.ref x_NoOrder.C) = some true
  em_NoOrder_BadScript : PySem.W.exmOne K (.ref x_NoOrder.C) (.ref x_BadScript.C) = some false
  em_NoOrder_GridError : PySem.W.exmOne K (.ref x_NoOrder.C) (.ref x_GridError.C) = some true
  v_VE : PySem.W.findCls K (.type "ValueError") (.type "type") "__init__" = some (.val (.builtin "ValueError.__init__"))
  t_LENGTH_OF_TWO : Tok
  c_LENGTH_OF_TWO : mg "LENGTH_OF_TWO" = some (.int 3 t_LENGTH_OF_TWO)
  t_MOST_BASES : Tok
  c_MOST_BASES : mg "MOST_BASES" = some (.int 3 t_MOST_BASES)
  t_MOST_BOTTOM : Tok
  c_MOST_BOTTOM : mg "MOST_BOTTOM" = some (.int 4 t_MOST_BOTTOM)
  t_MOST_GRIDS : Tok
  c_MOST_GRIDS : mg "MOST_GRIDS" = some (.int 6 t_MOST_GRIDS)
  t_MOST_MADE : Tok
  c_MOST_MADE : mg "MOST_MADE" = some (.int 12 t_MOST_MADE)
  t_MOST_ROWS : Tok
  c_MOST_ROWS : mg "MOST_ROWS" = some (.int 10 t_MOST_ROWS)
  t_MOST_STEPS : Tok
  c_MOST_STEPS : mg "MOST_STEPS" = some (.int 16 t_MOST_STEPS)
  t_MOST_TOP : Tok
  c_MOST_TOP : mg "MOST_TOP" = some (.int 6 t_MOST_TOP)
  n_ValueError : mg "ValueError" = none
  n_abs : mg "abs" = none
  n_all : mg "all" = none
  n_bool : mg "bool" = none
  n_enumerate : mg "enumerate" = none
  n_int : mg "int" = none
  n_isinstance : mg "isinstance" = none
  n_len : mg "len" = none
  n_list : mg "list" = none
  n_max : mg "max" = none
  n_min : mg "min" = none
  n_range : mg "range" = none
  n_repr : mg "repr" = none
  n_sorted : mg "sorted" = none
  n_str : mg "str" = none
  n_tuple : mg "tuple" = none
  n_zip : mg "zip" = none
  v_gcd : mg "gcd" = some (.builtin "math.gcd")
  d_LENGTHS : Addr
  m_LENGTHS : mg "LENGTHS" = some (.ref d_LENGTHS)
  kd_LENGTHS : KDi K w0 d_LENGTHS [("plus", 3), ("times", 3), ("turned", 2), ("beside", 3), ("above", 3), ("piece", 6), ("star", 2)]
section
variable {Pg : Program} {w : World} {K : PySem.W.Frag} {mg : Str → Option Value} {base : Heap}
theorem ok__law_state (T : Txt K mg) : FnOk Pg T.w0 K mg base CX0 1 T.D__law_state.f T.D__law_state.d ["script", "turn"] (spState K) := by
  refine T.D__law_state.F.ok (k := 0) sc__law_state (fun vs H Q E h => by obtain ⟨_, _, _, rfl, _⟩ := h; rfl) (fun cdv A outer s H vs Q E hr h => ?_)
  refine ⟨_, (pss_one (ps_ret (pe_lst (pa_cons (pe_callTy (call_list_ofK (K := K) rfl) (by rfl) T.n_list (by decide +kernel) (pa_cons (pv 0) pa_nil)) (pa_cons pe_int (pa_cons pe_int (pa_cons (pe_op (op_plusK (K := K) rfl) pe_int (pv 1)) pa_nil))))))), ?_⟩
  try dsimp only [cxOf, Cx.blk, Cx.nox, Cx.wish]
  obtain ⟨a, ns, t, rfl, hS, hl, h0, h1, q⟩ := h
  refine ⟨.ref a, rfl, a, _, rfl, .inl hS, fun b hb => ?_⟩
  refine ⟨.int t, rfl, .inl ⟨1, t, rfl, rfl, ?_⟩⟩
  refine ⟨by show 4 ≤ sizeLine; decide, fun s hs => ?_⟩
  have hbs : b ≠ s := ne_of_none (upd_same (H := H) (a := b) (o := .lst (ns.map V.int))) hs
  have hs0 : H s = none := by
    rw [upd_ne hbs.symm] at hs
    exact hs
  refine q _ s b (fun x o hx => ?_) hs0 hbs upd_same ?_
  · rw [upd_ne (ne_of_none hx hs0), upd_ne (ne_of_none hx hb)]
    exact hx
  · rw [upd_ne hbs]
    exact upd_same
def F__law_mixed : FD := fun ds P => ∃ a b : Int, ds = [.int a, .int b] ∧ 0 ≤ a ∧ a < 2147483647 ∧ ∀ r, 0 ≤ r → r < 2147483399 → P (.int r)
theorem len__law_mixed : ∀ ds P, F__law_mixed ds P → ds.length = 2 := by (intro ds P h; first | exact h | (obtain ⟨_, rfl, _⟩ := h; rfl) | (obtain ⟨_, _, rfl, _⟩ := h; rfl) | (obtain ⟨_, _, _, rfl, _⟩ := h; rfl) | (obtain ⟨_, _, _, _, rfl, _⟩ := h; rfl) | (obtain ⟨_, _, _, _, _, rfl, _⟩ := h; rfl) | (obtain ⟨_, _, _, _, _, _, rfl, _⟩ := h; rfl) | (obtain ⟨_, _, _, _, _, _, _, rfl, _⟩ := h; rfl) | (obtain ⟨_, _, _, _, _, _, _, _, rfl, _⟩ := h; rfl) | (obtain ⟨_, _, _, _, _, _, _, _, _, rfl, _⟩ := h; rfl) | (obtain ⟨_, _, _, _, _, _, _, _, _, _, rfl, _⟩ := h; rfl) | (obtain ⟨_, _, _, _, _, _, _, _, _, _, _, rfl, _⟩ := h; rfl) | (obtain ⟨_, _, _, _, _, _, _, _, _, _, _, _, rfl, _⟩ := h; rfl) | (obtain ⟨_, _, _, _, _, _, _, _, _, _, _, _, _, rfl, _⟩ := h; rfl) | (obtain ⟨rfl, _⟩ := h; rfl))
theorem ok__law_mixed (T : Txt K mg) : FnOk Pg T.w0 K mg base CX0 1 T.D__law_mixed.f T.D__law_mixed.d ["number", "more"] ((spD K F__law_mixed)) := by
  refine T.D__law_mixed.F.ok (k := 0) sc__law_mixed (spD_len (len__law_mixed)) (fun cdv A outer s H vs Q E hr h => ?_)
  refine ⟨_, (pss_cons (ps_set (i := 0) sc__law_mixed.nd rfl (by first | exact Or.inl rfl | exact Or.inr rfl) (pe_op op_mod (pe_callTy call_int1 (by rfl) T.n_int (by decide +kernel) (pa_cons (pe_op (op_plusK (K := K) rfl) (pe_op (op_plusK (K := K) rfl) (pe_op op_mulW (pv 0) pe_int) (pe_op op_mulW (pe_op op_mod (pe_callTy call_int1 (by rfl) T.n_int (by decide +kernel) (pa_cons (pv 1) pa_nil)) pe_int) pe_int)) pe_int) pa_nil)) pe_int))
    (pss_cons (ps_set (i := 0) sc__law_mixed.nd rfl (by first | exact Or.inl rfl | exact Or.inr rfl) (pe_op op_mod (pe_callTy call_int1 (by rfl) T.n_int (by decide +kernel) (pa_cons (pe_op op_mulW (pv 0) (pe_op (op_plusK (K := K) rfl) (pe_op op_fdivW (pv 0) pe_int) pe_int)) pa_nil)) pe_int))
    (pss_one (ps_ret (pe_op op_mod (pe_callTy call_int1 (by rfl) T.n_int (by decide +kernel) (pa_cons (pe_op op_mulW (pv 0) (pe_op (op_plusK (K := K) rfl) (pe_op op_fdivW (pv 0) pe_int) pe_int)) pa_nil)) pe_int))))), ?_⟩
  try dsimp only [cxOf, Cx.blk, Cx.nox, Cx.wish]
  (refine body_of h fun W ds P eK f => ?_); subst eK
  obtain ⟨a, b, rfl, h0, h1, hP⟩ := f
  walk_at "pd"
  all_goals first | (refine mul_small ?_ ?_ ?_ ?_ <;> omega) | (refine div_small ?_ ?_ <;> omega) | decide | skip
  exact hP _ (Int.emod_nonneg _ (by decide)) (Int.emod_lt_of_pos _ (by decide))
def F__law_draw : FD := fun ds P => ∃ n : Int, ds = [.st, .int n] ∧ 0 < n ∧ n.natAbs < 2 ^ 8000 ∧ ∀ r, 0 ≤ r → r < n → P (.int r)
theorem draw_lit {n : Int} {P : D → Prop} (h : (decide (0 < n) && decide (n < 10 ^ 41)) = true) (hP : ∀ r, 0 ≤ r → r < n → P (.int r)) : F__law_draw [.st, .int n] P := by
  rw [Bool.and_eq_true] at h
  have h1 := of_decide_eq_true h.1
  have h2 := of_decide_eq_true h.2
  have h3 : n.natAbs < 2 ^ 140 := by
    have : ((10 : Int) ^ 41).natAbs < 2 ^ 140 := by decide
    omega
  exact ⟨n, rfl, h1, lt_pow h3 (by decide), hP⟩
theorem draw_small {n : Int} {P : D → Prop} (h0 : 0 < n) (h1 : n < 1000000000000) (hP : ∀ r, 0 ≤ r → r < n → P (.int r)) : F__law_draw [.st, .int n] P := by
  have h3 : n.natAbs < 2 ^ 60 := by
    have : (2 : Nat) ^ 60 = 1152921504606846976 := by decide
    omega
  exact ⟨n, rfl, h0, lt_pow h3 (by decide), hP⟩
theorem dr_ix {K : PySem.W.Frag} {σ : L2.St} {H : Hp} {p : Addr} {xs : List V} {te ti : TE} {k : Int} {v : V} (h0 : Evl.Ev te σ H (.ref p)) (h1 : Evl.Ev ti σ H (.int k)) (hs : H p = some (.lst xs)) (hv : atI xs k = some v) : Evl.Ev (tOp (rIx K) te ti) σ H v :=
  Evl.ev_op h0 h1 fun H1 e _ q => .inl ⟨p, xs, k, v, rfl, rfl, .inl (.inl (e _ _ hs)), hv, q H1 (Evl.Ex.refl H1)⟩
theorem dr_eq {K : PySem.W.Frag} {σ : L2.St} {H : Hp} {ta tb : TE} {i j : Int} (ha : Evl.Ev ta σ H (.int i)) (hb : Evl.Ev tb σ H (.int j)) : Evl.Ev (tOp (rEqD K) ta tb) σ H (.bl (decide (i = j))) :=
  Evl.ev_op ha hb fun H1 e _ q => ⟨.int i, .int j, .int i, .int j, by simp [SeqAt.shaped, PyData.canLay0, PyData.depth], by simp [SeqAt.shaped, PyData.canLay0, PyData.depth], by
    have h := q H1 (Evl.Ex.refl H1)
    simp only [PyData.eqv]
    exact h⟩
theorem dr_len {K : PySem.W.Frag} {σ : L2.St} {H : Hp} {te : TE} {p : Addr} {xs : List V} (h : Evl.Ev te σ H (.ref p)) (hs : H p = some (.lst xs)) :
    Evl.Ev (tCB (fun xs H Q => ∃ x n, xs = [x] ∧ LenV K x H n ∧ Q (.int n) H) (tCons te tNil)) σ H (.int (xs.length : Int)) := fun H1 e Q q =>
  h H1 e _ fun H2 e2 => ⟨_, _, rfl, .inl ⟨xs, .inl (.inl ((e.trans e2) _ _ hs)), rfl⟩, q H2 e2⟩
theorem dr_plus {K : PySem.W.Frag} {σ : L2.St} {H : Hp} {ta tb : TE} {i j : Int} (ha : Evl.Ev ta σ H (.int i)) (hb : Evl.Ev tb σ H (.int j)) : Evl.Ev (tOp (rPlus K) ta tb) σ H (.int (i + j)) :=
  Evl.ev_op ha hb fun H1 _ _ q => .inl ⟨i, j, rfl, rfl, q H1 (Evl.Ex.refl H1)⟩
theorem dr_int {σ : L2.St} {H : Hp} {te : TE} {i : Int} (h : Evl.Ev te σ H (.int i)) : Evl.Ev (tCB (fun xs H Q => (∃ i, xs = [.int i] ∧ Q (.int i) H) ∨ ∃ k, xs = [.bl k] ∧ Q (.int (if k then 1 else 0)) H) (tCons te tNil)) σ H (.int i) := fun H1 e _ q =>
  h H1 e _ fun H2 e2 => .inl ⟨i, rfl, q H2 e2⟩
/-- what a draw knows of the heap: entered at H0 -/
structure DrS (W : Wd) (H0 : Hp) (s : Addr) (ns : List Int) (H : Hp) (i c m : Int) : Prop where
  k : Keep W H0 H
  hs : H s = some (.lst [.ref W.b, .int i, .int c, .int m])
  hb : H W.b = some (.lst (ns.map V.int))
  i0 : 0 ≤ i
  i1 : i ≤ 100
  c0 : 0 ≤ c
  m0 : 0 ≤ m
  m1 : m < 2147483647
theorem DrS.ex {W : Wd} {H0 H H' : Hp} {s : Addr} {ns : List Int} {i c m : Int} (d : DrS W H0 s ns H i c m) (e : Evl.Ex H H') : DrS W H0 s ns H' i c m :=
  ⟨d.k.trans fun a o _ h => e a o h, e _ _ d.hs, e _ _ d.hb, d.i0, d.i1, d.c0, d.m0, d.m1⟩
theorem DrS.set {W : Wd} {H0 H : Hp} {s : Addr} {ns : List Int} {i c m i' c' m' : Int} (d : DrS W H0 s ns H i c m) (hW : W.s = some s) (hne : W.b ≠ s) (h1 : 0 ≤ i') (h2 : i' ≤ 100) (h3 : 0 ≤ c') (h4 : 0 ≤ m') (h5 : m' < 2147483647) :
    DrS W H0 s ns (upd H s (.lst [.ref W.b, .int i', .int c', .int m'])) i' c' m' :=
  ⟨fun a o n h => by
    have e : a ≠ s := fun z => n (by rw [z]; exact hW)
    rw [upd_ne e]
    exact d.k a o n h, upd_same, by rw [upd_ne hne]; exact d.hb, h1, h2, h3, h4, h5⟩
theorem seq_tail {t u : TS} {D : Ends} {σ : L2.St} {H : Hp} (Mid : L2.St → Hp → Prop) (tail : ∀ σ' H', Mid σ' H' → u D σ' H') (main : (∀ σ' H', Mid σ' H' → u D σ' H') → tSeq t u D σ H) : tSeq t u D σ H := main tail
theorem len__law_draw : ∀ ds P, F__law_draw ds P → ds.length = 2 := by (intro ds P h; first | exact h | (obtain ⟨_, rfl, _⟩ := h; rfl) | (obtain ⟨_, _, rfl, _⟩ := h; rfl) | (obtain ⟨_, _, _, rfl, _⟩ := h; rfl) | (obtain ⟨_, _, _, _, rfl, _⟩ := h; rfl) | (obtain ⟨_, _, _, _, _, rfl, _⟩ := h; rfl) | (obtain ⟨_, _, _, _, _, _, rfl, _⟩ := h; rfl) | (obtain ⟨_, _, _, _, _, _, _, rfl, _⟩ := h; rfl) | (obtain ⟨_, _, _, _, _, _, _, _, rfl, _⟩ := h; rfl) | (obtain ⟨_, _, _, _, _, _, _, _, _, rfl, _⟩ := h; rfl) | (obtain ⟨_, _, _, _, _, _, _, _, _, _, rfl, _⟩ := h; rfl) | (obtain ⟨_, _, _, _, _, _, _, _, _, _, _, rfl, _⟩ := h; rfl) | (obtain ⟨_, _, _, _, _, _, _, _, _, _, _, _, rfl, _⟩ := h; rfl) | (obtain ⟨_, _, _, _, _, _, _, _, _, _, _, _, _, rfl, _⟩ := h; rfl) | (obtain ⟨rfl, _⟩ := h; rfl))
theorem ok__law_draw (T : Txt K mg) : FnOk Pg T.w0 K mg base CX0 2 T.D__law_draw.f T.D__law_draw.d ["state", "many"] ((spD K F__law_draw)) := by
  have G__law_mixed := ok__law_mixed (Pg := Pg) (base := base) T
  refine T.D__law_draw.F.ok (k := 1) sc__law_draw (spD_len (len__law_draw)) (fun cdv A outer s H vs Q E hr h => ?_)
  refine ⟨_, (pss_cons (ps_if (PW.pt (pw_and (pt_cmpR (op_eqDK (K := K) rfl (hr_u hr)) (pe_ix (ix_seqK (K := K) rfl) (pv 0) pe_int (fun _ _ => rfl)) pe_int (nomark _)) (pw_and1 (pt_cmpR op_lt (pe_ix (ix_seqK (K := K) rfl) (pv 0) pe_int (fun _ _ => rfl)) (pe_callB (call_lenK (K := K) rfl) (by rfl) T.n_len (by decide +kernel) (pa_cons (pe_ix (ix_seqK (K := K) rfl) (pv 0) pe_int (fun _ _ => rfl)) pa_nil)) (nomark _)))))
      (pss_cons (ps_set (i := 2) sc__law_draw.nd rfl (by first | exact Or.inl rfl | exact Or.inr rfl) (pe_ix (ix_seqK (K := K) rfl) (pe_ix (ix_seqK (K := K) rfl) (pv 0) pe_int (fun _ _ => rfl)) (pe_ix (ix_seqK (K := K) rfl) (pv 0) pe_int (fun _ _ => rfl)) (fun _ _ => rfl)))
    (pss_cons (ps_asg (pe_op (op_plusK (K := K) rfl) (pe_ix (ix_seqK (K := K) rfl) (pv 0) pe_int (fun _ _ => rfl)) pe_int) (pg_sub (pv 0) pe_int set_list))
    (pss_one (ps_if (pt_cmpR op_ge (pv 2) (pe_op op_pow pe_int pe_int) (nomark _))
      (pss_one (ps_asg (pv 2) (pg_sub (pv 0) pe_int set_list)))
      (pss_one (ps_asg (pe_call G__law_mixed (hr.mono (by decide)) (by rfl) T.D__law_mixed.g T.D__law_mixed.F.kp T.D__law_mixed.b .nil pass0 (pa_cons (pe_ix (ix_seqK (K := K) rfl) (pv 0) pe_int (fun _ _ => rfl)) (pa_cons (pv 2) pa_nil))) (pg_sub (pv 0) pe_int set_list)))))))
      pss_nil)
    (pss_cons (ps_if (pt_cmpR op_gt (pe_ix (ix_seqK (K := K) rfl) (pv 0) pe_int (fun _ _ => rfl)) pe_int (nomark _))
      (pss_cons (ps_set (i := 3) sc__law_draw.nd rfl (by first | exact Or.inl rfl | exact Or.inr rfl) (pe_op op_mod (pe_callTy call_int1 (by rfl) T.n_int (by decide +kernel) (pa_cons (pe_ix (ix_seqK (K := K) rfl) (pv 0) pe_int (fun _ _ => rfl)) pa_nil)) (pv 1)))
    (pss_cons (ps_asg (pe_op op_fdivW (pe_ix (ix_seqK (K := K) rfl) (pv 0) pe_int (fun _ _ => rfl)) (pv 1)) (pg_sub (pv 0) pe_int set_list))
    (pss_one (ps_ret (pv 3)))))
      pss_nil)
    (pss_cons (ps_asg (pe_call G__law_mixed (hr.mono (by decide)) (by rfl) T.D__law_mixed.g T.D__law_mixed.F.kp T.D__law_mixed.b .nil pass0 (pa_cons (pe_ix (ix_seqK (K := K) rfl) (pv 0) pe_int (fun _ _ => rfl)) (pa_cons (pe_ix (ix_seqK (K := K) rfl) (pv 0) pe_int (fun _ _ => rfl)) pa_nil))) (pg_sub (pv 0) pe_int set_list))
    (pss_one (ps_ret (pe_op op_mod (pe_op op_fdivW (pe_callTy call_int1 (by rfl) T.n_int (by decide +kernel) (pa_cons (pe_ix (ix_seqK (K := K) rfl) (pv 0) pe_int (fun _ _ => rfl)) pa_nil)) pe_int) (pv 1))))))), ?_⟩
  try dsimp only [cxOf, Cx.blk, Cx.nox, Cx.wish]
  obtain ⟨W, M, ds, P, eK, wf, hr1, ⟨n, rfl, hn, hn2, hP⟩, q⟩ := h
  subst eK
  cases hr1 with
  | cons r1 r2 =>
  cases r2 with
  | cons r2 r3 =>
  cases r3
  cases r2
  cases r1 with
  | @st s hW =>
  obtain ⟨ns, i, c, m, hs, hne, hb, i0, i1, hl, c0, m0, m1⟩ := wf.g s hW
  have dS : DrS W H s ns H i c m := ⟨Keep.refl H, hs, hb, i0, i1, c0, m0, m1⟩
  have ok : ∀ {H' : Hp} {i c m : Int}, DrS W H s ns H' i c m → ∀ r, 0 ≤ r → r < n → Q (.int r) H' := fun {H' i c m} d r h0 h1 => q (.int r) (.int r) H' (fun s' e => by
    have e2 : s' = s := Option.some.inj (e.symm.trans hW)
    subst e2
    exact ⟨ns, i, c, m, d.hs, hne, d.hb, d.i0, d.i1, hl, d.c0, d.m0, d.m1⟩) d.k (.int r) (hP r h0 h1)
  -- state[k] = the mix
  have mix : ∀ {σ : L2.St} {H' : Hp} {ta : TA} {E : XK} {i c m b : Int} {D : Ends}, DrS W H s ns H' i c m → σ[0]? = some (some (.ref s)) → Evl.EvA ta σ H' [.int m, .int b] →
      (∀ H2 m', DrS W H s ns H2 i c m' → D.nx σ H2) → tAsg (tCall (spD W.K F__law_mixed) [] E ta) (gSub (tVar 0) (tC (.int 3)) rSetL) D σ H' := fun {σ H' ta E i c m b D} d hσ ha hk =>
    ha H' (Evl.Ex.refl _) _ fun H1 e1 => ⟨⟨W.K, none, 0⟩, fun _ => False, [.int m, .int b], fun x => ∃ r, x = .int r ∧ 0 ≤ r ∧ r < 2147483399, rfl, ⟨fun _ z => (by cases z), fun _ z => (by cases z), fun _ z => False.elim z⟩, .cons (.int _) (.cons (.int _) .nil),
      ⟨m, b, rfl, d.m0, d.m1, fun r h0 h1 => ⟨r, rfl, h0, h1⟩⟩, fun v x H2 _ k2 rx hx => by
        obtain ⟨r, rfl, h0, h1⟩ := hx
        cases rx
        have e2 : Evl.Ex H1 H2 := fun a o h => k2 a o (by intro z; cases z) h
        have d2 := d.ex (e1.trans e2)
        exact ⟨.ref s, hσ, s, _, _, 3, rfl, rfl, d2.hs, rfl, hk _ _ (d2.set hW hne d2.i0 d2.i1 d2.c0 h0 (by omega))⟩⟩
  have at0 : ∀ {i c m : Int}, atI [V.ref W.b, .int i, .int c, .int m] 0 = some (.ref W.b) := atI_nat (j := 0) rfl
  have at1 : ∀ {i c m : Int}, atI [V.ref W.b, .int i, .int c, .int m] 1 = some (.int i) := atI_nat (j := 1) rfl
  have at2 : ∀ {i c m : Int}, atI [V.ref W.b, .int i, .int c, .int m] 2 = some (.int c) := atI_nat (j := 2) rfl
  have at3 : ∀ {i c m : Int}, atI [V.ref W.b, .int i, .int c, .int m] 3 = some (.int m) := atI_nat (j := 3) rfl
  have x0 : ∀ {σ : L2.St} {H' : Hp} {i c m : Int}, DrS W H s ns H' i c m → σ[0]? = some (some (.ref s)) → Evl.Ev (tOp (rIx W.K) (tVar 0) (tC (V.int 0))) σ H' (.ref W.b) := fun d h => dr_ix (Evl.ev_var h) Evl.ev_c d.hs at0
  have x1 : ∀ {σ : L2.St} {H' : Hp} {i c m : Int}, DrS W H s ns H' i c m → σ[0]? = some (some (.ref s)) → Evl.Ev (tOp (rIx W.K) (tVar 0) (tC (V.int 1))) σ H' (.int i) := fun d h => dr_ix (Evl.ev_var h) Evl.ev_c d.hs at1
  have x2 : ∀ {σ : L2.St} {H' : Hp} {i c m : Int}, DrS W H s ns H' i c m → σ[0]? = some (some (.ref s)) → Evl.Ev (tOp (rIx W.K) (tVar 0) (tC (V.int 2))) σ H' (.int c) := fun d h => dr_ix (Evl.ev_var h) Evl.ev_c d.hs at2
  have x3 : ∀ {σ : L2.St} {H' : Hp} {i c m : Int}, DrS W H s ns H' i c m → σ[0]? = some (some (.ref s)) → Evl.Ev (tOp (rIx W.K) (tVar 0) (tC (V.int 3))) σ H' (.int m) := fun d h => dr_ix (Evl.ev_var h) Evl.ev_c d.hs at3
  have put : ∀ {σ : L2.St} {H' : Hp} {i c m i' c' : Int} {k z : Int} {j : Nat} {te : TE} {D : Ends}, DrS W H s ns H' i c m → σ[0]? = some (some (.ref s)) → Evl.Ev te σ H' (.int z) → k = (j : Int) → j < 4 →
      [V.ref W.b, .int i, .int c, .int m].set j (.int z) = [V.ref W.b, .int i', .int c', .int m] → 0 ≤ i' → i' ≤ 100 → 0 ≤ c' → (∀ H2, DrS W H s ns H2 i' c' m → D.nx σ H2) →
      tAsg te (gSub (tVar 0) (tC (.int k)) rSetL) D σ H' := fun {σ H' i c m i' c' k z j te D} d hσ he hk hj hset h0 h1 h2 kk => by
    subst hk
    refine Evl.s_setL d.hs he (Evl.ev_var hσ) Evl.ev_c hj fun H2 e2 => ?_
    rw [hset]
    exact kk _ ((d.ex e2).set hW hne h0 h1 h2 d.m0 d.m1)
  refine seq_tail (fun σ H' => ∃ i c m, DrS W H s ns H' i c m ∧ σ[0]? = some (some (.ref s)) ∧ σ[1]? = some (some (.int n)) ∧ 3 < σ.length) ?_ (fun tail => ?_)
  · rintro σ H' ⟨i, c, m, d, hσ, hn1, hl4⟩
    refine Evl.q_when (D := { nx := fun x H' => Q V.non H', rt := Q }) (Evl.et_test (Evl.ev_op (x2 d hσ) Evl.ev_c Evl.rv_I0)) (fun hb1 H1 e1 => ?_) (fun hb1 H1 e1 => ?_)
    · have hc := of_decide_eq_true hb1
      have d1 := d.ex e1
      refine Evl.q_asg (Evl.ev_op (dr_int (x2 d1 hσ)) (Evl.ev_var hn1) (Evl.rv_I (C := fun _ j => 0 < j) hn)) fun H2 e2 => ?_
      have d2 := d1.ex e2
      have hσ2 : (σ.set 3 (some (V.int (c % n))))[0]? = some (some (.ref s)) := by rw [List.getElem?_set_ne (by decide)]; exact hσ
      have hn2' : (σ.set 3 (some (V.int (c % n))))[1]? = some (some (.int n)) := by rw [List.getElem?_set_ne (by decide)]; exact hn1
      have h3 : (σ.set 3 (some (V.int (c % n))))[3]? = some (some (.int (c % n))) := by rw [List.getElem?_set_self hl4]
      refine put (i' := i) (c' := c / n) (j := 2) d2 hσ2 (Evl.ev_op (x2 d2 hσ2) (Evl.ev_var hn2') (Evl.rv_I (div_ok hn hn2))) rfl (by decide) rfl d2.i0 d2.i1 (Int.ediv_nonneg d2.c0 (by omega)) fun H3 d3 => ?_
      exact Evl.s_ret (Evl.ev_var h3) fun H4 e4 => ok (d3.ex e4) _ (Int.emod_nonneg _ (by omega)) (Int.emod_lt_of_pos _ hn)
    · have d1 := d.ex e1
      refine mix d1 hσ (Evl.ea_cons (x3 d1 hσ) (Evl.ea_cons (x1 d1 hσ) Evl.ea_nil)) fun H2 m' d2 => ?_
      refine Evl.s_ret (Evl.ev_op (Evl.ev_op (dr_int (x3 d2 hσ)) Evl.ev_c (Evl.rv_I (div_small (by decide) (by decide)))) (Evl.ev_var hn1) (Evl.rv_I (C := fun _ j => 0 < j) hn)) fun H3 e3 => ?_
      exact ok (d2.ex e3) _ (Int.emod_nonneg _ (by omega)) (Int.emod_lt_of_pos _ hn)
  · refine Evl.q_when (D := { nx := fun x H' => Q V.non H', rt := Q }) (Evl.et_and (Evl.et_test (dr_eq (x2 dS rfl) Evl.ev_c)) (fun _ => Evl.et_test (Evl.ev_op (x1 dS rfl) (dr_len (x0 dS rfl) dS.hb) Evl.rv_I0))) (fun hb1 H1 e1 => ?_) (fun hb1 H1 e1 => tail _ _ ⟨_, _, _, dS.ex e1, rfl, rfl, by show 3 < 4; decide⟩)
    rw [Bool.and_eq_true] at hb1
    have hi := of_decide_eq_true hb1.2
    rw [List.length_map] at hi
    have d1 := dS.ex e1
    obtain ⟨j, rfl⟩ := Int.eq_ofNat_of_zero_le i0
    have hj : j < ns.length := by omega
    have hat : atI (ns.map V.int) (j : Int) = some (.int ns[j]) := atI_nat (by rw [List.getElem?_map, List.getElem?_eq_getElem hj]; rfl)
    refine Evl.q_asg (dr_ix (x0 d1 rfl) (x1 d1 rfl) d1.hb hat) fun H2 e2 => ?_
    have d2 := d1.ex e2
    refine put (i' := (j : Int) + 1) (c' := c) (j := 1) d2 rfl (dr_plus (x1 d2 rfl) Evl.ev_c) rfl (by decide) rfl (by omega) (by omega) d2.c0 fun H3 d3 => ?_
    refine Evl.s_if (Evl.et_test (Evl.ev_op (Evl.ev_var rfl) (Evl.ev_op Evl.ev_c Evl.ev_c (Evl.rv_I ⟨by decide, by decide, by decide⟩)) Evl.rv_I0)) (fun hb2 H4 e4 => ?_) (fun hb2 H4 e4 => ?_)
    · have ht := of_decide_eq_true hb2
      refine put (i' := (j : Int) + 1) (c' := ns[j]) (j := 2) (d3.ex e4) rfl (Evl.ev_var rfl) rfl (by decide) rfl (by omega) (by omega) (by
        have : (0 : Int) ≤ 10 ^ (18 : Int).toNat := by decide
        omega) fun H5 d5 => ?_
      exact tail _ _ ⟨_, _, _, d5, rfl, rfl, by show 3 < 4; decide⟩
    · have d4 := d3.ex e4
      refine mix d4 rfl (Evl.ea_cons (x3 d4 rfl) (Evl.ea_cons (Evl.ev_var rfl) Evl.ea_nil)) fun H5 m' d5 => ?_
      exact tail _ _ ⟨_, _, _, d5, rfl, rfl, by show 3 < 4; decide⟩
def F__law_fit : FD := fun ds P => ∃ (k : Str) (l : List Int) (one other : Sh), ds = [stD k l, shD one, shD other] ∧ kindLen.lookup k = some ((l.length : Int) + 1) ∧ (∀ i ∈ l, 0 ≤ i) ∧ P (optSh (fitD k l one other))
theorem len__law_fit : ∀ ds P, F__law_fit ds P → ds.length = 3 := by (intro ds P h; first | exact h | (obtain ⟨_, rfl, _⟩ := h; rfl) | (obtain ⟨_, _, rfl, _⟩ := h; rfl) | (obtain ⟨_, _, _, rfl, _⟩ := h; rfl) | (obtain ⟨_, _, _, _, rfl, _⟩ := h; rfl) | (obtain ⟨_, _, _, _, _, rfl, _⟩ := h; rfl) | (obtain ⟨_, _, _, _, _, _, rfl, _⟩ := h; rfl) | (obtain ⟨_, _, _, _, _, _, _, rfl, _⟩ := h; rfl) | (obtain ⟨_, _, _, _, _, _, _, _, rfl, _⟩ := h; rfl) | (obtain ⟨_, _, _, _, _, _, _, _, _, rfl, _⟩ := h; rfl) | (obtain ⟨_, _, _, _, _, _, _, _, _, _, rfl, _⟩ := h; rfl) | (obtain ⟨_, _, _, _, _, _, _, _, _, _, _, rfl, _⟩ := h; rfl) | (obtain ⟨_, _, _, _, _, _, _, _, _, _, _, _, rfl, _⟩ := h; rfl) | (obtain ⟨_, _, _, _, _, _, _, _, _, _, _, _, _, rfl, _⟩ := h; rfl) | (obtain ⟨rfl, _⟩ := h; rfl))
theorem ok__law_fit (T : Txt K mg) : FnOk Pg T.w0 K mg base CX0 1 T.D__law_fit.f T.D__law_fit.d ["step", "one", "other"] ((spD K F__law_fit)) := by
  refine T.D__law_fit.F.ok (k := 0) sc__law_fit (spD_len (len__law_fit)) (fun cdv A outer s H vs Q E hr h => ?_)
  refine ⟨_, (pss_cons (ps_set (i := 3) sc__law_fit.nd rfl (by first | exact Or.inl rfl | exact Or.inr rfl) (pe_ix (ix_seqK (K := K) rfl) (pv 0) pe_int (fun _ _ => rfl)))
    (pss_cons (ps_if (pt_cmpR (op_eqDK (K := K) rfl (hr_u hr)) (pv 3) pe_str (nomark _))
      (pss_one (ps_ret (pe_ifExp (pt_cmpR (op_eqDK (K := K) rfl (hr_u hr)) (pv 1) (pv 2) (nomark _)) (pv 1) pe_non)))
      pss_nil)
    (pss_cons (ps_if (pt_cmpR (op_eqDK (K := K) rfl (hr_u hr)) (pv 3) pe_str (nomark _))
      (pss_one (ps_ret (pe_ifExp (pt_cmpR (op_eqDK (K := K) rfl (hr_u hr)) (pe_ix (ix_seqK (K := K) rfl) (pv 1) pe_int (fun _ _ => rfl)) (pe_ix (ix_seqK (K := K) rfl) (pv 2) pe_int (fun _ _ => rfl)) (nomark _)) (pe_tup (pa_cons (pe_ix (ix_seqK (K := K) rfl) (pv 1) pe_int (fun _ _ => rfl)) (pa_cons (pe_ix (ix_seqK (K := K) rfl) (pv 2) pe_int (fun _ _ => rfl)) pa_nil))) pe_non)))
      pss_nil)
    (pss_cons (ps_if (pt_cmpR (op_eqDK (K := K) rfl (hr_u hr)) (pv 3) pe_str (nomark _))
      (pss_one (ps_ret (pe_tup (pa_cons (pe_ix (ix_seqK (K := K) rfl) (pv 1) pe_int (fun _ _ => rfl)) (pa_cons (pe_ix (ix_seqK (K := K) rfl) (pv 1) pe_int (fun _ _ => rfl)) pa_nil)))))
      pss_nil)
    (pss_cons (ps_if (pt_cmpR (op_eqDK (K := K) rfl (hr_u hr)) (pv 3) pe_str (nomark _))
      (pss_one (ps_ret (pe_ifExp (pt_cmpR (op_eqDK (K := K) rfl (hr_u hr)) (pe_ix (ix_seqK (K := K) rfl) (pv 1) pe_int (fun _ _ => rfl)) (pe_ix (ix_seqK (K := K) rfl) (pv 2) pe_int (fun _ _ => rfl)) (nomark _)) (pe_tup (pa_cons (pe_ix (ix_seqK (K := K) rfl) (pv 1) pe_int (fun _ _ => rfl)) (pa_cons (pe_op (op_plusK (K := K) rfl) (pe_ix (ix_seqK (K := K) rfl) (pv 1) pe_int (fun _ _ => rfl)) (pe_ix (ix_seqK (K := K) rfl) (pv 2) pe_int (fun _ _ => rfl))) pa_nil))) pe_non)))
      pss_nil)
    (pss_cons (ps_if (pt_cmpR (op_eqDK (K := K) rfl (hr_u hr)) (pv 3) pe_str (nomark _))
      (pss_one (ps_ret (pe_ifExp (pt_cmpR (op_eqDK (K := K) rfl (hr_u hr)) (pe_ix (ix_seqK (K := K) rfl) (pv 1) pe_int (fun _ _ => rfl)) (pe_ix (ix_seqK (K := K) rfl) (pv 2) pe_int (fun _ _ => rfl)) (nomark _)) (pe_tup (pa_cons (pe_op (op_plusK (K := K) rfl) (pe_ix (ix_seqK (K := K) rfl) (pv 1) pe_int (fun _ _ => rfl)) (pe_ix (ix_seqK (K := K) rfl) (pv 2) pe_int (fun _ _ => rfl))) (pa_cons (pe_ix (ix_seqK (K := K) rfl) (pv 1) pe_int (fun _ _ => rfl)) pa_nil))) pe_non)))
      pss_nil)
    (pss_cons (ps_if (pt_cmpR (op_eqDK (K := K) rfl (hr_u hr)) (pv 3) pe_str (nomark _))
      (pss_one (ps_ret (pe_ifExp (pt_cmpR (op_eqDK (K := K) rfl (hr_u hr)) (pe_ix (ix_seqK (K := K) rfl) (pv 1) pe_int (fun _ _ => rfl)) (pe_ix (ix_seqK (K := K) rfl) (pv 1) pe_int (fun _ _ => rfl)) (nomark _)) (pv 1) pe_non)))
      pss_nil)
    (pss_cons (ps_if (PW.pt (pw_or (pt_cmpR op_lt (pe_ix (ix_seqK (K := K) rfl) (pv 0) pe_int (fun _ _ => rfl)) pe_int (nomark _)) (pw_or (pt_cmpR op_lt (pe_ix (ix_seqK (K := K) rfl) (pv 0) pe_int (fun _ _ => rfl)) pe_int (nomark _)) (pw_or (pt_cmpR op_gt (pe_op (op_plusK (K := K) rfl) (pe_ix (ix_seqK (K := K) rfl) (pv 0) pe_int (fun _ _ => rfl)) (pe_ix (ix_seqK (K := K) rfl) (pv 0) pe_int (fun _ _ => rfl))) (pe_ix (ix_seqK (K := K) rfl) (pv 1) pe_int (fun _ _ => rfl)) (nomark _)) (pw_or1 (pt_cmpR op_gt (pe_op (op_plusK (K := K) rfl) (pe_ix (ix_seqK (K := K) rfl) (pv 0) pe_int (fun _ _ => rfl)) (pe_ix (ix_seqK (K := K) rfl) (pv 0) pe_int (fun _ _ => rfl))) (pe_ix (ix_seqK (K := K) rfl) (pv 1) pe_int (fun _ _ => rfl)) (nomark _)))))))
      (pss_one (ps_ret pe_non))
      pss_nil)
    (pss_one (ps_ret (pe_tup (pa_cons (pe_ix (ix_seqK (K := K) rfl) (pv 0) pe_int (fun _ _ => rfl)) (pa_cons (pe_ix (ix_seqK (K := K) rfl) (pv 0) pe_int (fun _ _ => rfl)) pa_nil))))))))))))), ?_⟩
  try dsimp only [cxOf, Cx.blk, Cx.nox, Cx.wish]
  (refine body_of h fun W ds P eK f => ?_); subst eK
  obtain ⟨k, l, ⟨a, b⟩, ⟨c, d⟩, rfl, hk, hpos, hP⟩ := f
  have kf := kind_fine hk
  unfold stD at *
  simp only [shD]
  walk_at "pd"
  have case5 : k = "piece" → ∃ g i j r e, l = [g, i, j, r, e] := fun z => by
    subst z
    have l5 : l.length = 5 := by
      have : kindLen.lookup ("piece" : Str) = some 6 := by decide +kernel
      rw [this] at hk
      have := Option.some.inj hk
      omega
    obtain _ | ⟨g, _ | ⟨i, _ | ⟨j, _ | ⟨r, _ | ⟨e, _ | ⟨_, _⟩⟩⟩⟩⟩⟩ := l <;> try (simp at l5; done)
    exact ⟨_, _, _, _, _, rfl⟩
  have all := kind_cases hk
  refine ⟨fun z => ?_, fun z => ?_⟩
  · have z := of_decide_eq_true z
    subst z
    have hP : P (optSh (if (a, b) = ((c, d) : Sh) then some (a, b) else none)) := hP
    walk_at "pd"
    refine ⟨fun z => ?_, fun z => ?_⟩
    · rw [if_pos (of_decide_eq_true z)] at hP
      walk_at "pd"
      exact hP
    · rw [if_neg (of_decide_eq_false z)] at hP
      walk_at "pd"
      exact hP
  have n1 := of_decide_eq_false z
  walk_at "pd"
  refine ⟨fun z => ?_, fun z => ?_⟩
  · have z := of_decide_eq_true z
    subst z
    have hP : P (optSh (if b = c then some (a, d) else none)) := hP
    walk_at "pd"
    refine ⟨fun z => ?_, fun z => ?_⟩
    · rw [if_pos (of_decide_eq_true z)] at hP
      walk_at "pd"
      exact hP
    · rw [if_neg (of_decide_eq_false z)] at hP
      walk_at "pd"
      exact hP
  have n2 := of_decide_eq_false z
  walk_at "pd"
  refine ⟨fun z => ?_, fun z => ?_⟩
  · have z := of_decide_eq_true z
    subst z
    have hP : P (optSh (some (b, a))) := hP
    walk_at "pd"
    exact hP
  have n3 := of_decide_eq_false z
  walk_at "pd"
  refine ⟨fun z => ?_, fun z => ?_⟩
  · have z := of_decide_eq_true z
    subst z
    have hP : P (optSh (if a = c then some (a, b + d) else none)) := hP
    walk_at "pd"
    refine ⟨fun z => ?_, fun z => ?_⟩
    · rw [if_pos (of_decide_eq_true z)] at hP
      walk_at "pd"
      exact hP
    · rw [if_neg (of_decide_eq_false z)] at hP
      walk_at "pd"
      exact hP
  have n4 := of_decide_eq_false z
  walk_at "pd"
  refine ⟨fun z => ?_, fun z => ?_⟩
  · have z := of_decide_eq_true z
    subst z
    have hP : P (optSh (if b = d then some (a + c, b) else none)) := hP
    walk_at "pd"
    refine ⟨fun z => ?_, fun z => ?_⟩
    · rw [if_pos (of_decide_eq_true z)] at hP
      walk_at "pd"
      exact hP
    · rw [if_neg (of_decide_eq_false z)] at hP
      walk_at "pd"
      exact hP
  have n5 := of_decide_eq_false z
  walk_at "pd"
  refine ⟨fun z => ?_, fun z => ?_⟩
  · have z := of_decide_eq_true z
    subst z
    have hP : P (optSh (if a = b then some (a, b) else none)) := hP
    walk_at "pd"
    refine ⟨fun z => ?_, fun z => ?_⟩
    · rw [if_pos (of_decide_eq_true z)] at hP
      walk_at "pd"
      exact hP
    · rw [if_neg (of_decide_eq_false z)] at hP
      walk_at "pd"
      exact hP
  have n6 := of_decide_eq_false z
  have kp : k = "piece" := by
    rcases all with ⟨h, _⟩ | ⟨h, _⟩ | ⟨h, _⟩ | ⟨h, _⟩ | ⟨h, _⟩ | ⟨h, _⟩ | ⟨h, _⟩ <;> first | exact h | exact absurd h n1 | exact absurd h n2 | exact absurd h n3 | exact absurd h n4 | exact absurd h n5 | exact absurd h n6
  obtain ⟨g, i, j, r, e, rfl⟩ := case5 kp
  subst kp
  have hP : P (optSh (if min i j < 0 ∨ min r e < 1 then none else if a < i + r ∨ b < j + e then none else some (r, e))) := hP
  have i0 : 0 ≤ i := hpos i (by simp)
  have j0 : 0 ≤ j := hpos j (by simp)
  walk_at "pd"
  refine rd_ixT (j := 4) rfl rfl ?_
  walk_at "pd"
  refine ⟨fun z => ?_, fun z => ?_⟩
  · have z1 := of_decide_eq_false z
    walk_at "pd"
    refine rd_ixT (j := 5) rfl rfl ?_
    walk_at "pd"
    refine ⟨fun z => ?_, fun z => ?_⟩
    · have z2 := of_decide_eq_false z
      rw [if_neg (by omega)] at hP
      walk_at "pd"
      refine rd_ixT (j := 2) rfl rfl ?_
      walk_at "pd"
      refine rd_ixT (j := 4) rfl rfl ?_
      walk_at "pd"
      refine ⟨fun z => ?_, fun z => ?_⟩
      · have z3 := of_decide_eq_false z
        walk_at "pd"
        refine rd_ixT (j := 3) rfl rfl ?_
        walk_at "pd"
        refine rd_ixT (j := 5) rfl rfl ?_
        walk_at "pd"
        refine ⟨fun z => ?_, fun z => ?_⟩
        · have z4 := of_decide_eq_true z
          rw [if_pos (.inr (by omega))] at hP
          walk_at "pd"
          exact hP
        · have z4 := of_decide_eq_false z
          rw [if_neg (by omega)] at hP
          walk_at "pd"
          refine rd_ixT (j := 4) rfl rfl ?_
          walk_at "pd"
          refine rd_ixT (j := 5) rfl rfl ?_
          walk_at "pd"
          exact hP
      · have z3 := of_decide_eq_true z
        rw [if_pos (.inl (by omega))] at hP
        walk_at "pd"
        exact hP
    · have z2 := of_decide_eq_true z
      rw [if_pos (.inr (by omega))] at hP
      walk_at "pd"
      exact hP
  · have z1 := of_decide_eq_true z
    rw [if_pos (.inr (by omega))] at hP
    walk_at "pd"
    exact hP
def F__law_is_integer (K : PySem.W.Frag) : FD := fun ds P => ∃ x, ds = [x] ∧ Jd1 K x ∧ P (.bl x.isInt)
theorem len__law_is_integer (K : PySem.W.Frag) : ∀ ds P, (F__law_is_integer K) ds P → ds.length = 1 := by (intro ds P h; first | exact h | (obtain ⟨_, rfl, _⟩ := h; rfl) | (obtain ⟨_, _, rfl, _⟩ := h; rfl) | (obtain ⟨_, _, _, rfl, _⟩ := h; rfl) | (obtain ⟨_, _, _, _, rfl, _⟩ := h; rfl) | (obtain ⟨_, _, _, _, _, rfl, _⟩ := h; rfl) | (obtain ⟨_, _, _, _, _, _, rfl, _⟩ := h; rfl) | (obtain ⟨_, _, _, _, _, _, _, rfl, _⟩ := h; rfl) | (obtain ⟨_, _, _, _, _, _, _, _, rfl, _⟩ := h; rfl) | (obtain ⟨_, _, _, _, _, _, _, _, _, rfl, _⟩ := h; rfl) | (obtain ⟨_, _, _, _, _, _, _, _, _, _, rfl, _⟩ := h; rfl) | (obtain ⟨_, _, _, _, _, _, _, _, _, _, _, rfl, _⟩ := h; rfl) | (obtain ⟨_, _, _, _, _, _, _, _, _, _, _, _, rfl, _⟩ := h; rfl) | (obtain ⟨_, _, _, _, _, _, _, _, _, _, _, _, _, rfl, _⟩ := h; rfl) | (obtain ⟨rfl, _⟩ := h; rfl))
theorem ok__law_is_integer (T : Txt K mg) : FnOk Pg T.w0 K mg base CX0 1 T.D__law_is_integer.f T.D__law_is_integer.d ["thing"] ((spD K (F__law_is_integer K))) := by
  refine T.D__law_is_integer.F.ok (k := 0) sc__law_is_integer (spD_len (len__law_is_integer K)) (fun cdv A outer s H vs Q E hr h => ?_)
  refine ⟨_, (pss_one (ps_ret (pe_and (pe_callB (call_isiK' (K := K) rfl) (by rfl) T.n_isinstance (by decide +kernel) (pa_cons (pv 0) (pa_cons (pe_bltn (v := .ty "int") (u := .type "int") (by rfl) T.n_int (by decide +kernel) rfl) pa_nil))) (pe_one (pe_not (pe_callB (call_isiK' (K := K) rfl) (by rfl) T.n_isinstance (by decide +kernel) (pa_cons (pv 0) (pa_cons (pe_bltn (v := .ty "bool") (u := .type "bool") (by rfl) T.n_bool (by decide +kernel) rfl) pa_nil)))))))), ?_⟩
  try dsimp only [cxOf, Cx.blk, Cx.nox, Cx.wish]
  (refine body_of h fun W ds P eK f => ?_); subst eK
  obtain ⟨x, rfl, hx, hP⟩ := f
  walk_at "pd"
  refine ⟨fun hb => ?_, fun hb => ?_⟩
  · walk_at "pd"
    cases x <;> first | exact hP | cases hb
  · cases x <;> first | exact hP | cases hb
def cntL : List (Str × Int) := [("plus", 2), ("times", 2), ("turned", 1), ("beside", 2), ("above", 2), ("piece", 5), ("star", 1)]
theorem cnt_get (k : Str) : dicGet (cntL.map fun q => (Sum.inr q.1 : Key)) (cntL.map fun q => D.int q.2) (Sum.inr k) = (kindLen.lookup k).map fun n => D.int (n - 1) := by
  cases e : kindLen.lookup k with
  | some n => rcases kind_cases e with ⟨rfl, rfl⟩ | ⟨rfl, rfl⟩ | ⟨rfl, rfl⟩ | ⟨rfl, rfl⟩ | ⟨rfl, rfl⟩ | ⟨rfl, rfl⟩ | ⟨rfl, rfl⟩ <;> rfl
  | none =>
    have ne : ∀ s n, kindLen.lookup s = some n → ¬ (Sum.inr s : Key) = Sum.inr k := fun s n h z => by
      have : s = k := Sum.inr.inj z
      rw [this, e] at h
      cases h
    unfold cntL
    simp only [List.map_cons, dicGet]
    rw [if_neg (ne "plus" 3 rfl), if_neg (ne "times" 3 rfl), if_neg (ne "turned" 2 rfl), if_neg (ne "beside" 3 rfl), if_neg (ne "above" 3 rfl), if_neg (ne "piece" 6 rfl), if_neg (ne "star" 2 rfl)]
    rfl
theorem kind_len {k : Str} {l : List Int} (hk : kindLen.lookup k = some ((l.length : Int) + 1)) : (kindLen.lookup k = some 3 ∧ ∃ a b, l = [a, b]) ∨ (kindLen.lookup k ≠ some 3 ∧ ((∃ a, l = [a]) ∨ k = "piece" ∧ ∃ g i j r c, l = [g, i, j, r, c])) := by
  have two : (l.length : Int) + 1 = 3 → ∃ a b, l = [a, b] := fun h => by
    obtain _ | ⟨a, _ | ⟨b, _ | ⟨_, _⟩⟩⟩ := l <;> simp only [List.length_cons, List.length_nil] at h <;> first | omega | exact ⟨_, _, rfl⟩
  have one : (l.length : Int) + 1 = 2 → ∃ a, l = [a] := fun h => by
    obtain _ | ⟨a, _ | ⟨b, _⟩⟩ := l <;> simp only [List.length_cons, List.length_nil] at h <;> first | omega | exact ⟨_, rfl⟩
  have five : (l.length : Int) + 1 = 6 → ∃ g i j r c, l = [g, i, j, r, c] := fun h => by
    obtain _ | ⟨g, _ | ⟨i, _ | ⟨j, _ | ⟨r, _ | ⟨c, _ | ⟨_, _⟩⟩⟩⟩⟩⟩ := l <;> simp only [List.length_cons, List.length_nil] at h <;> first | omega | exact ⟨_, _, _, _, _, rfl⟩
  rcases kind_cases hk with ⟨h, e⟩ | ⟨h, e⟩ | ⟨h, e⟩ | ⟨h, e⟩ | ⟨h, e⟩ | ⟨h, e⟩ | ⟨h, e⟩ <;> rw [e] at hk
  · exact .inl ⟨hk, two e⟩
  · exact .inl ⟨hk, two e⟩
  · exact .inr ⟨by rw [hk]; decide, .inl (one e)⟩
  · exact .inl ⟨hk, two e⟩
  · exact .inl ⟨hk, two e⟩
  · exact .inr ⟨by rw [hk]; decide, .inr ⟨h, five e⟩⟩
  · exact .inr ⟨by rw [hk]; decide, .inl (one e)⟩
theorem made_neg {shs : List Sh} {x : D} {k : Str} {l : List Int} (so : stepOf x = some (k, l)) (hn : ∃ i ∈ l, i < 0) : madeD shs x = none := by
  obtain ⟨rfl, hk⟩ := stepOf_some so
  obtain ⟨i, hi, hneg⟩ := hn
  unfold madeD
  rw [so]
  simp only
  have off : ∀ v, v < 0 → okSrc shs.length v = false := fun v hv => by
    unfold okSrc
    rw [decide_eq_false (by omega : ¬ 0 ≤ v)]
    rfl
  rcases kind_len hk with ⟨h3, a, b, rfl⟩ | ⟨h3, ⟨a, rfl⟩ | ⟨rfl, g, i1, j1, r, c, rfl⟩⟩
  · have : (srcs k [a, b]).all (okSrc shs.length) = false := by
      unfold srcs
      rw [if_pos h3]
      simp only [List.mem_cons, List.not_mem_nil, or_false] at hi
      rcases hi with rfl | rfl
      · simp [off _ hneg]
      · simp [off _ hneg]
    rw [this]
    rfl
  · have : (srcs k [a]).all (okSrc shs.length) = false := by
      unfold srcs
      rw [if_neg h3]
      simp only [List.mem_cons, List.not_mem_nil, or_false] at hi
      subst hi
      simp [off _ hneg]
    rw [this]
    rfl
  · by_cases hg : g < 0
    · have : (srcs "piece" [g, i1, j1, r, c]).all (okSrc shs.length) = false := by
        unfold srcs
        rw [if_neg h3]
        simp [off _ hg]
      rw [this]
      rfl
    · split
      · show small12 (pieceD i1 j1 r c _) = none
        unfold pieceD
        rw [if_pos]
        · rfl
        · simp only [List.mem_cons, List.not_mem_nil, or_false] at hi
          omega
      · rfl
theorem fit_other {k : Str} {l : List Int} (h : kindLen.lookup k = some ((l.length : Int) + 1)) (h3 : kindLen.lookup k ≠ some 3) (one a b : Sh) : fitD k l one a = fitD k l one b := by
  unfold fitD
  by_cases e1 : k = "turned"
  · rw [if_pos e1, if_pos e1]
  rw [if_neg e1, if_neg e1]
  by_cases e2 : k = "star"
  · rw [if_pos e2, if_pos e2]
  rw [if_neg e2, if_neg e2]
  by_cases e3 : k = "piece"
  · rw [if_pos e3, if_pos e3]
  exfalso
  rcases kind_cases h with ⟨rfl, _⟩ | ⟨rfl, _⟩ | ⟨rfl, _⟩ | ⟨rfl, _⟩ | ⟨rfl, _⟩ | ⟨rfl, _⟩ | ⟨rfl, _⟩ <;> first | exact h3 rfl | exact e1 rfl | exact e2 rfl | exact e3 rfl
def F__law_made (K : PySem.W.Frag) : FD := fun ds P => ∃ (shs : List Sh) (x : D), ds = [x, .lst (shs.map shD)] ∧ shs.length ≤ 1000 ∧ Jd K x ∧ x.len ≤ 1000 ∧ P (optSh (madeD shs x))
theorem len__law_made (K : PySem.W.Frag) : ∀ ds P, (F__law_made K) ds P → ds.length = 2 := by (intro ds P h; first | exact h | (obtain ⟨_, rfl, _⟩ := h; rfl) | (obtain ⟨_, _, rfl, _⟩ := h; rfl) | (obtain ⟨_, _, _, rfl, _⟩ := h; rfl) | (obtain ⟨_, _, _, _, rfl, _⟩ := h; rfl) | (obtain ⟨_, _, _, _, _, rfl, _⟩ := h; rfl) | (obtain ⟨_, _, _, _, _, _, rfl, _⟩ := h; rfl) | (obtain ⟨_, _, _, _, _, _, _, rfl, _⟩ := h; rfl) | (obtain ⟨_, _, _, _, _, _, _, _, rfl, _⟩ := h; rfl) | (obtain ⟨_, _, _, _, _, _, _, _, _, rfl, _⟩ := h; rfl) | (obtain ⟨_, _, _, _, _, _, _, _, _, _, rfl, _⟩ := h; rfl) | (obtain ⟨_, _, _, _, _, _, _, _, _, _, _, rfl, _⟩ := h; rfl) | (obtain ⟨_, _, _, _, _, _, _, _, _, _, _, _, rfl, _⟩ := h; rfl) | (obtain ⟨_, _, _, _, _, _, _, _, _, _, _, _, _, rfl, _⟩ := h; rfl) | (obtain ⟨rfl, _⟩ := h; rfl))
theorem ok__law_made (T : Txt K mg) : FnOk Pg T.w0 K mg base CX0 2 T.D__law_made.f T.D__law_made.d ["step", "shapes"] ((spD K (F__law_made K))) := by
  have G__law_fit := ok__law_fit (Pg := Pg) (base := base) T
  have G__law_is_integer := ok__law_is_integer (Pg := Pg) (base := base) T
  refine T.D__law_made.F.ok (k := 1) sc__law_made (spD_len (len__law_made K)) (fun cdv A outer s H vs Q E hr h => ?_)
  refine ⟨_, (pss_cons (ps_set (i := 2) sc__law_made.nd rfl (by first | exact Or.inl rfl | exact Or.inr rfl) (pe_disp (pps_cons pe_str pe_int (pps_cons pe_str pe_int (pps_cons pe_str pe_int (pps_cons pe_str pe_int (pps_cons pe_str pe_int (pps_cons pe_str pe_int (pps_cons pe_str pe_int pps_nil))))))) rfl rfl (by simp) (by decide)))
    (pss_cons (ps_if (PW.pt (pw_or (pt_not (pt_val (pe_callB (call_isiK' (K := K) rfl) (by rfl) T.n_isinstance (by decide +kernel) (pa_cons (pv 0) (pa_cons (pe_bltn (v := .ty "tuple") (u := .type "tuple") (by rfl) T.n_tuple (by decide +kernel) rfl) pa_nil))))) (pw_or (pt_cmpR (op_eqDK (K := K) rfl (hr_u hr)) (pe_callB (call_lenK (K := K) rfl) (by rfl) T.n_len (by decide +kernel) (pa_cons (pv 0) pa_nil)) pe_int (nomark _)) (pw_or (pt_not (pt_val (pe_callB (call_isiK' (K := K) rfl) (by rfl) T.n_isinstance (by decide +kernel) (pa_cons (pe_ix (ix_seqK (K := K) rfl) (pv 0) pe_int (fun _ _ => rfl)) (pa_cons (pe_bltn (v := .ty "str") (u := .type "str") (by rfl) T.n_str (by decide +kernel) rfl) pa_nil))))) (pw_or1 (pt_cmp (pc_dnotin (hr_u1 hr) (pe_ix (ix_seqK (K := K) rfl) (pv 0) pe_int (fun _ _ => rfl)) (pv 2))))))))
      (pss_one (ps_ret pe_non))
      pss_nil)
    (pss_cons (ps_if (PW.pt (pw_or (pt_cmpR (op_neDK (K := K) rfl (hr_u hr)) (pe_callB (call_lenK (K := K) rfl) (by rfl) T.n_len (by decide +kernel) (pa_cons (pv 0) pa_nil)) (pe_op (op_plusK (K := K) rfl) (pe_dget (hr_u1 hr) (pv 2) (pe_ix (ix_seqK (K := K) rfl) (pv 0) pe_int (fun _ _ => rfl)) (fun _ _ => rfl)) pe_int) (nomark _)) (pw_or1 (pt_not (pt_val (pe_callB (cr_allK (K := K) rfl rfl) (by rfl) T.n_all (by decide +kernel) (pa_cons (pe_lc (own := [("item", 5)]) rfl sc__law_made.nd (pi_seqK (K := K) rfl (pe_slice (sl_tupAK (K := K) rfl) (pv 0) (po_some pe_int) po_none)) (blkOk_by (N := ["step", "shapes", "counts", "other", "made", "item"]) (sc := defScope s__law_made) (by decide +kernel)) (fun _ _ _ _ _ => (pg_name (i := 5) sc__law_made.nd rfl (by first | exact Or.inl rfl | exact Or.inr rfl))) (fun _ _ _ _ _ => pts_nil) (fun _ _ _ _ _ => (pe_and (pe_call G__law_is_integer (hr.mono (by decide)) (by rfl) T.D__law_is_integer.g T.D__law_is_integer.F.kp T.D__law_is_integer.b .nil pass0 (pa_cons (pv 5) pa_nil)) (pe_one (pe_cmpR op_ge (pv 5) pe_int (nomark _)))))) pa_nil)))))))
      (pss_one (ps_ret pe_non))
      pss_nil)
    (pss_cons (ps_if (pt_cmpR op_ge (pe_ix (ix_seqK (K := K) rfl) (pv 0) pe_int (fun _ _ => rfl)) (pe_callB (call_lenK (K := K) rfl) (by rfl) T.n_len (by decide +kernel) (pa_cons (pv 1) pa_nil)) (nomark _))
      (pss_one (ps_ret pe_non))
      pss_nil)
    (pss_cons (ps_set (i := 3) sc__law_made.nd rfl (by first | exact Or.inl rfl | exact Or.inr rfl) (pe_ifExp (pt_cmpR (op_eqDK (K := K) rfl (hr_u hr)) (pe_dget (hr_u1 hr) (pv 2) (pe_ix (ix_seqK (K := K) rfl) (pv 0) pe_int (fun _ _ => rfl)) (fun _ _ => rfl)) pe_int (nomark _)) (pe_ix (ix_seqK (K := K) rfl) (pv 0) pe_int (fun _ _ => rfl)) (pe_ix (ix_seqK (K := K) rfl) (pv 0) pe_int (fun _ _ => rfl))))
    (pss_cons (ps_if (pt_cmpR op_ge (pv 3) (pe_callB (call_lenK (K := K) rfl) (by rfl) T.n_len (by decide +kernel) (pa_cons (pv 1) pa_nil)) (nomark _))
      (pss_one (ps_ret pe_non))
      pss_nil)
    (pss_cons (ps_set (i := 4) sc__law_made.nd rfl (by first | exact Or.inl rfl | exact Or.inr rfl) (pe_call G__law_fit (hr.mono (by decide)) (by rfl) T.D__law_fit.g T.D__law_fit.F.kp T.D__law_fit.b .nil pass0 (pa_cons (pv 0) (pa_cons (pe_ix (ix_seqK (K := K) rfl) (pv 1) (pe_ix (ix_seqK (K := K) rfl) (pv 0) pe_int (fun _ _ => rfl)) (fun _ _ => rfl)) (pa_cons (pe_ix (ix_seqK (K := K) rfl) (pv 1) (pv 3) (fun _ _ => rfl)) pa_nil)))))
    (pss_one (ps_ret (pe_ifExp (PW.pt (pw_or (pt_cmpR op_isN (pv 4) pe_non (nomark _)) (pw_or1 (pt_cmpR op_gt (pe_callB (call_max2 rfl) (by rfl) T.n_max (by decide +kernel) (pa_cons (pe_ix (ix_seqK (K := K) rfl) (pv 4) pe_int (fun _ _ => rfl)) (pa_cons (pe_ix (ix_seqK (K := K) rfl) (pv 4) pe_int (fun _ _ => rfl)) pa_nil))) pe_int (nomark _))))) pe_non (pv 4))))))))))), ?_⟩
  try dsimp only [cxOf, Cx.blk, Cx.nox, Cx.wish]
  (refine body_of h fun W ds P eK f => ?_); subst eK
  obtain ⟨shs, x, rfl, ls, jx, lx, hP⟩ := f
  have tx := jd_ty jx
  have no : stepOf x = none → P .non := fun e => by
    unfold madeD at hP
    rw [e] at hP
    exact hP
  walk_at "pd"
  refine ev_dispS (kvs := cntL) (by decide) (by rfl) ?_
  walk_at "pd"
  refine ⟨fun z => ?_, fun z => ?_⟩
  · obtain ⟨xs, rfl⟩ := tup_of (by simpa using z)
    have lx : (xs.length : Int) ≤ 1000 := lx
    walk_at "pd"
    refine ⟨fun z => ?_, fun z => ?_⟩
    · have z := of_decide_eq_false z
      obtain _ | ⟨y, ys⟩ := xs
      · exact absurd rfl z
      simp only [Jd, JdA] at jx
      have ty := jd_ty jx.1
      walk_at "pd"
      cases hs : y.isStr with
      | false =>
        walk_at "pd"
        exact no (by cases y <;> first | rfl | cases hs)
      | true =>
        obtain ⟨k, rfl⟩ : ∃ k, y = .str k := by cases y <;> first | exact ⟨_, rfl⟩ | cases hs
        walk_at "pd"
        have tl : (D.str k :: ys).length = ys.length + 1 := rfl
        refine ev_dnotin ?_
        walk_at "pd"
        refine ⟨.inr k, rfl, ?_⟩
        walk_at "pd"
        refine ⟨_, _, rfl, ?_⟩
        rw [cnt_get]
        cases e : kindLen.lookup k with
        | none =>
          walk_at "pd"
          refine no ?_
          unfold stepOf
          simp only [e]
        | some m =>
          have form : stepOf (.tup (.str k :: ys)) = (match intsOf ys with
              | none => none
              | some l => if (l.length : Int) + 1 = m then some (k, l) else none) := by
            unfold stepOf
            simp only [e]
            cases intsOf ys <;> rfl
          have gk : dicGet (cntL.map fun q => (Sum.inr q.1 : Key)) (cntL.map fun q => D.int q.2) (Sum.inr k) = some (.int (m - 1)) := by
            rw [cnt_get, e]
            rfl
          walk_at "pd"
          refine ev_dget ?_
          walk_at "pd"
          refine ⟨_, _, rfl, ?_⟩
          walk_at "pd"
          refine ⟨.inr k, _, rfl, gk, ?_⟩
          walk_at "pd"
          refine ⟨fun z => ?_, fun z => ?_⟩
          · have z1 : ((ys.length + 1 : Nat) : Int) = m := by
              have : ((ys.length + 1 : Nat) : Int) = m - 1 + 1 := by simpa using z
              omega
            walk_at "pd"
            refine ev_lcL (it_seqT ?_)
            walk_at "pd"
            refine ⟨_, rfl, ?_⟩
            walk_at "pd"
            refine ⟨_, rfl, ?_⟩
            walk_at "pd"
            rw [cut1]
            have z2 : ((D.str k :: ys).length : Int) ≤ 1000 := lx
            refine ⟨_, rfl, by omega, ys.map fun y => .bl (y.isInt && decide (0 ≤ y.toI)), by rw [List.length_map], fun i d y hd hy => ?_, ?_⟩
            · rw [List.getElem?_map, hd] at hy
              cases hy
              refine ⟨[5], by simp, gd_name ?_⟩
              walk_at "pd"
              refine ⟨d, rfl, jd_ty (jd_mem jx.2 (List.mem_of_getElem? hd)), ?_⟩
              walk_at "pd"
              refine ⟨fun h1 => ?_, fun h1 => ?_⟩
              · obtain ⟨v, rfl⟩ := isInt_of h1
                walk_at "pd"
                simp only [D.isInt, D.toI, Bool.true_and]
                rfl
              · show D.bl false = D.bl (d.isInt && decide (0 ≤ d.toI))
                rw [h1]
                rfl
            · walk_at "pd"
              rw [show (ys.map fun y => D.bl (y.isInt && decide (0 ≤ y.toI))) = (ys.map fun y => y.isInt && decide (0 ≤ y.toI)).map D.bl from by rw [List.map_map]; rfl]
              refine rc_all ?_
              rw [List.all_map]
              cases ha : (ys.all (id ∘ fun y => y.isInt && decide (0 ≤ y.toI))) with
              | false =>
                walk_at "pd"
                cases ei : intsOf ys with
                | none =>
                  refine no ?_
                  rw [form, ei]
                | some l =>
                  have ey := intsOf_some ei
                  subst ey
                  rw [List.length_map] at z1
                  have so : stepOf (.tup (.str k :: l.map D.int)) = some (k, l) := by
                    rw [form, ei]
                    exact if_pos (by omega)
                  have hn : ∃ i ∈ l, i < 0 := by
                    obtain ⟨y, hy, hb⟩ := List.all_eq_false.mp ha
                    obtain ⟨i, hi, rfl⟩ := List.mem_map.mp hy
                    refine ⟨i, hi, ?_⟩
                    simp only [Function.comp, id, D.isInt, D.toI, Bool.true_and] at hb
                    exact Int.not_le.mp fun h => hb (decide_eq_true h)
                  rw [made_neg so hn] at hP
                  exact hP
              | true =>
                have all := List.all_eq_true.mp ha
                have hi : (intsOf ys).isSome = true := by
                  rw [← intsOf_all, List.all_eq_true]
                  intro y hy
                  have := all y hy
                  simp only [Function.comp, id, Bool.and_eq_true] at this
                  exact this.1
                cases ei : intsOf ys with
                | none => rw [ei] at hi; cases hi
                | some l =>
                have ey := intsOf_some ei
                subst ey
                rw [List.length_map] at z1
                have so : stepOf (.tup (.str k :: l.map D.int)) = some (k, l) := by
                  rw [form, ei]
                  exact if_pos (by omega)
                have hk : kindLen.lookup k = some ((l.length : Int) + 1) := (stepOf_some so).2
                have pos : ∀ i ∈ l, 0 ≤ i := fun i hi => by
                  have := all (.int i) (List.mem_map.mpr ⟨i, hi, rfl⟩)
                  simp only [Function.comp, id, D.isInt, D.toI, Bool.true_and] at this
                  exact of_decide_eq_true this
                have hm : madeD shs (.tup (.str k :: l.map D.int)) = if (srcs k l).all (okSrc shs.length) then small12 (fitD k l (shAt shs (l.getD 0 0)) (shAt shs (l.getD 1 0))) else none := by
                  unfold madeD
                  rw [so]
                rw [hm] at hP
                obtain ⟨g, r, rfl⟩ : ∃ g r, l = g :: r := by
                  rcases kind_len hk with ⟨_, a, b, rfl⟩ | ⟨_, ⟨a, rfl⟩ | ⟨_, g, i, j, r, c, rfl⟩⟩ <;> exact ⟨_, _, rfl⟩
                have g0 : 0 ≤ g := pos g List.mem_cons_self
                rw [List.map_cons]
                walk_at "pd"
                rw [List.length_map]
                refine ⟨fun z => ?_, fun z => ?_⟩
                · have z := of_decide_eq_true z
                  have : (srcs k (g :: r)).all (okSrc shs.length) = false := by
                    have h0 : okSrc shs.length g = false := by
                      unfold okSrc
                      rw [decide_eq_false (by omega : ¬ g < (shs.length : Int)), Bool.and_false]
                    unfold srcs
                    split <;> simp [h0]
                  rw [this] at hP
                  walk_at "pd"
                  exact hP
                have gl := of_decide_eq_false z
                have gl : g < shs.length := by omega
                have a0 : (shs.map shD)[g.toNat]? = some (shD (shAt shs g)) := by
                  have lt : g.toNat < shs.length := by omega
                  rw [List.getElem?_map, List.getElem?_eq_getElem lt]
                  unfold shAt
                  simp [lt]
                refine sd_next ?_
                refine sd_seq (sd_asg ?_)
                refine ev_mid (fun d => ∃ v : Int, d = .int v ∧ 0 ≤ v ∧ (srcs k (g :: r)).all (okSrc shs.length) = decide (v < (shs.length : Int)) ∧ fitD k (g :: r) (shAt shs g) (shAt shs v) = fitD k (g :: r) (shAt shs ((g :: r).getD 0 0)) (shAt shs ((g :: r).getD 1 0))) ?_ ?_
                · have og : okSrc shs.length g = true := by
                    unfold okSrc
                    rw [decide_eq_true g0, decide_eq_true gl]
                    rfl
                  walk_at "pd"
                  refine ev_dget ?_
                  walk_at "pd"
                  refine ⟨_, _, rfl, ?_⟩
                  walk_at "pd"
                  refine ⟨.inr k, _, rfl, gk, ?_⟩
                  walk_at "pd"
                  refine ⟨fun z => ?_, fun z => ?_⟩
                  · have m3 : m = 3 := by
                      have := of_decide_eq_true z
                      omega
                    rw [m3] at e
                    rcases kind_len hk with ⟨_, a, b, el⟩ | ⟨h3, _⟩
                    · injection el with e1 e2
                      subst e1
                      subst e2
                      have b0 : 0 ≤ b := pos b (by simp)
                      walk_at "pd"
                      refine rd_ixT (j := 2) rfl rfl ?_
                      refine ⟨b, rfl, b0, ?_, rfl⟩
                      unfold srcs
                      rw [if_pos e]
                      show (okSrc shs.length g && (okSrc shs.length b && true)) = _
                      rw [og]
                      unfold okSrc
                      rw [decide_eq_true b0]
                      simp
                    · exact absurd e h3
                  · have m3 : m ≠ 3 := fun h => by
                      have := of_decide_eq_false z
                      omega
                    have ne : kindLen.lookup k ≠ some 3 := fun h => by
                      rw [e] at h
                      exact m3 (Option.some.inj h)
                    walk_at "pd"
                    refine ⟨g, rfl, g0, ?_, fit_other hk ne _ _ _⟩
                    unfold srcs
                    rw [if_neg ne]
                    show (okSrc shs.length g && true) = _
                    rw [og, decide_eq_true gl]
                    rfl
                · rintro d ⟨v, rfl, v0, hv, hf⟩
                  rw [hv] at hP
                  walk_at "pd"
                  rw [List.length_map]
                  refine ⟨fun z => ?_, fun z => ?_⟩
                  · have z := of_decide_eq_true z
                    rw [decide_eq_false (by omega : ¬ v < (shs.length : Int))] at hP
                    walk_at "pd"
                    exact hP
                  · have z := of_decide_eq_false z
                    have vl : v < (shs.length : Int) := by omega
                    have a1 : (shs.map shD)[v.toNat]? = some (shD (shAt shs v)) := by
                      have lt : v.toNat < shs.length := by omega
                      rw [List.getElem?_map, List.getElem?_eq_getElem lt]
                      unfold shAt
                      simp [lt]
                    rw [decide_eq_true vl, ← hf] at hP
                    have hP : P (optSh (small12 (fitD k (g :: r) (shAt shs g) (shAt shs v)))) := hP
                    walk_at "pd"
                    refine rd_ixL (j := g.toNat) (by omega) a0 ?_
                    walk_at "pd"
                    refine rd_ixL (j := v.toNat) (by omega) a1 ?_
                    walk_at "pd"
                    refine ⟨k, g :: r, _, _, rfl, hk, pos, ?_⟩
                    cases ef : fitD k (g :: r) (shAt shs g) (shAt shs v) with
                    | none =>
                      rw [ef] at hP
                      unfold optSh
                      walk_at "pd"
                      exact hP
                    | some p =>
                      rw [ef] at hP
                      obtain ⟨a, b⟩ := p
                      have hP : P (optSh (if 12 < max a b then none else some (a, b))) := hP
                      unfold optSh shD
                      walk_at "pd"
                      refine ⟨fun z => ?_, fun z => ?_⟩
                      · have z : 12 < max a b := of_decide_eq_true z
                        rw [if_pos z] at hP
                        walk_at "pd"
                        exact hP
                      · have z : ¬ 12 < max a b := of_decide_eq_false z
                        rw [if_neg z] at hP
                        walk_at "pd"
                        exact hP
          · have z1 : ¬ ((ys.length + 1 : Nat) : Int) = m := fun h => by
              have : ¬ ((ys.length + 1 : Nat) : Int) = m - 1 + 1 := by simpa using z
              omega
            walk_at "pd"
            refine no ?_
            rw [form]
            cases ei : intsOf ys with
            | none => rfl
            | some l =>
              have ey := intsOf_some ei
              subst ey
              rw [List.length_map] at z1
              exact if_neg (by omega)
    · have z := of_decide_eq_true z
      obtain _ | ⟨y, ys⟩ := xs
      · walk_at "pd"
        exact no rfl
      · have z : ((ys.length + 1 : Nat) : Int) = 0 := z
        omega
  · walk_at "pd"
    have e : x.isTup = false := by simpa using z
    exact no (by cases x <;> first | rfl | cases e)
/-- a shape that a grid may have -/
def okSh (p : Sh) : Prop := 1 ≤ p.1 ∧ p.1 ≤ 12 ∧ 1 ≤ p.2 ∧ p.2 ≤ 12
theorem small_ok {o : Option Sh} {q : Sh} (h : small12 o = some q) : o = some q ∧ q.1 ≤ 12 ∧ q.2 ≤ 12 := by
  unfold small12 at h
  split at h
  · cases h
  · split at h
    · cases h
    · cases h
      exact ⟨rfl, by omega, by omega⟩
theorem made_turned {shs : List Sh} {g : Int} (h0 : 0 ≤ g) (h1 : g < shs.length) (ok : ∀ p ∈ shs, okSh p) : madeD shs (stD "turned" [g]) = some ((shAt shs g).2, (shAt shs g).1) := by
  have hm : shAt shs g ∈ shs := by
    unfold shAt
    have lt : g.toNat < shs.length := by omega
    simp [lt]
  have := ok _ hm
  unfold okSh at this
  unfold madeD
  have hk : kindLen.lookup ("turned" : Str) = some ((([g] : List Int).length : Int) + 1) := rfl
  rw [stepOf_stD hk]
  have e : (srcs "turned" [g]).all (okSrc shs.length) = true := by
    have : okSrc shs.length g = true := by
      unfold okSrc
      rw [decide_eq_true h0, decide_eq_true h1]
      rfl
    show (okSrc shs.length g && true) = true
    rw [this]
    rfl
  show (if (srcs "turned" [g]).all (okSrc shs.length) then small12 (some ((shAt shs g).2, (shAt shs g).1)) else none) = _
  rw [if_pos e]
  show (if 12 < max (shAt shs g).2 (shAt shs g).1 then none else some ((shAt shs g).2, (shAt shs g).1)) = _
  rw [if_neg (by omega)]
def F__law_step : FD := fun ds P => ∃ shs : List Sh, ds = [.st, .lst (shs.map shD)] ∧ 1 ≤ shs.length ∧ shs.length ≤ 100 ∧ (∀ p ∈ shs, okSh p) ∧ ∀ (k : Str) (l : List Int) (q : Sh), kindLen.lookup k = some ((l.length : Int) + 1) → madeD shs (stD k l) = some q → (∀ i ∈ l, 0 ≤ i ∧ i ≤ 1000) → P (stD k l)
theorem len__law_step : ∀ ds P, F__law_step ds P → ds.length = 2 := by (intro ds P h; first | exact h | (obtain ⟨_, rfl, _⟩ := h; rfl) | (obtain ⟨_, _, rfl, _⟩ := h; rfl) | (obtain ⟨_, _, _, rfl, _⟩ := h; rfl) | (obtain ⟨_, _, _, _, rfl, _⟩ := h; rfl) | (obtain ⟨_, _, _, _, _, rfl, _⟩ := h; rfl) | (obtain ⟨_, _, _, _, _, _, rfl, _⟩ := h; rfl) | (obtain ⟨_, _, _, _, _, _, _, rfl, _⟩ := h; rfl) | (obtain ⟨_, _, _, _, _, _, _, _, rfl, _⟩ := h; rfl) | (obtain ⟨_, _, _, _, _, _, _, _, _, rfl, _⟩ := h; rfl) | (obtain ⟨_, _, _, _, _, _, _, _, _, _, rfl, _⟩ := h; rfl) | (obtain ⟨_, _, _, _, _, _, _, _, _, _, _, rfl, _⟩ := h; rfl) | (obtain ⟨_, _, _, _, _, _, _, _, _, _, _, _, rfl, _⟩ := h; rfl) | (obtain ⟨_, _, _, _, _, _, _, _, _, _, _, _, _, rfl, _⟩ := h; rfl) | (obtain ⟨rfl, _⟩ := h; rfl))
theorem ok__law_step (T : Txt K mg) : FnOk Pg T.w0 K mg base CX0 3 T.D__law_step.f T.D__law_step.d ["state", "shapes"] ((spD K F__law_step)) := by
  have G__law_draw := ok__law_draw (Pg := Pg) (base := base) T
  have G__law_made := ok__law_made (Pg := Pg) (base := base) T
  refine T.D__law_step.F.ok (k := 2) sc__law_step (spD_len (len__law_step)) (fun cdv A outer s H vs Q E hr h => ?_)
  refine ⟨_, (pss_cons (ps_set (i := 2) sc__law_step.nd rfl (by first | exact Or.inl rfl | exact Or.inr rfl) (pe_ix (ix_seqK (K := K) rfl) (pe_lst (pa_cons pe_str (pa_cons pe_str (pa_cons pe_str (pa_cons pe_str (pa_cons pe_str (pa_cons pe_str (pa_cons pe_str (pa_cons pe_str (pa_cons pe_str pa_nil)))))))))) (pe_call G__law_draw (hr.mono (by decide)) (by rfl) T.D__law_draw.g T.D__law_draw.F.kp T.D__law_draw.b .nil pass0 (pa_cons (pv 0) (pa_cons pe_int pa_nil))) (fun _ _ => rfl)))
    (pss_cons (ps_set (i := 3) sc__law_step.nd rfl (by first | exact Or.inl rfl | exact Or.inr rfl) (pe_call G__law_draw (hr.mono (by decide)) (by rfl) T.D__law_draw.g T.D__law_draw.F.kp T.D__law_draw.b .nil pass0 (pa_cons (pv 0) (pa_cons (pe_callB (call_lenK (K := K) rfl) (by rfl) T.n_len (by decide +kernel) (pa_cons (pv 1) pa_nil)) pa_nil))))
    (pss_cons (ps_set (i := 4) sc__law_step.nd rfl (by first | exact Or.inl rfl | exact Or.inr rfl) (pe_tup (pa_cons (pv 2) (pa_cons (pv 3) pa_nil))))
    (pss_cons (ps_if (pt_cmpR (op_eqDK (K := K) rfl (hr_u hr)) (pv 2) pe_str (nomark _))
      (pss_cons (ps_set (i := 5) sc__law_step.nd rfl (by first | exact Or.inl rfl | exact Or.inr rfl) (pe_call G__law_draw (hr.mono (by decide)) (by rfl) T.D__law_draw.g T.D__law_draw.F.kp T.D__law_draw.b .nil pass0 (pa_cons (pv 0) (pa_cons (pe_ix (ix_seqK (K := K) rfl) (pe_ix (ix_seqK (K := K) rfl) (pv 1) (pv 3) (fun _ _ => rfl)) pe_int (fun _ _ => rfl)) pa_nil))))
    (pss_cons (ps_set (i := 6) sc__law_step.nd rfl (by first | exact Or.inl rfl | exact Or.inr rfl) (pe_call G__law_draw (hr.mono (by decide)) (by rfl) T.D__law_draw.g T.D__law_draw.F.kp T.D__law_draw.b .nil pass0 (pa_cons (pv 0) (pa_cons (pe_ix (ix_seqK (K := K) rfl) (pe_ix (ix_seqK (K := K) rfl) (pv 1) (pv 3) (fun _ _ => rfl)) pe_int (fun _ _ => rfl)) pa_nil))))
    (pss_cons (ps_set (i := 7) sc__law_step.nd rfl (by first | exact Or.inl rfl | exact Or.inr rfl) (pe_op (op_plusK (K := K) rfl) pe_int (pe_call G__law_draw (hr.mono (by decide)) (by rfl) T.D__law_draw.g T.D__law_draw.F.kp T.D__law_draw.b .nil pass0 (pa_cons (pv 0) (pa_cons (pe_op op_sub (pe_ix (ix_seqK (K := K) rfl) (pe_ix (ix_seqK (K := K) rfl) (pv 1) (pv 3) (fun _ _ => rfl)) pe_int (fun _ _ => rfl)) (pv 5)) pa_nil)))))
    (pss_one (ps_set (i := 4) sc__law_step.nd rfl (by first | exact Or.inl rfl | exact Or.inr rfl) (pe_tup (pa_cons (pv 2) (pa_cons (pv 3) (pa_cons (pv 5) (pa_cons (pv 6) (pa_cons (pv 7) (pa_cons (pe_op (op_plusK (K := K) rfl) pe_int (pe_call G__law_draw (hr.mono (by decide)) (by rfl) T.D__law_draw.g T.D__law_draw.F.kp T.D__law_draw.b .nil pass0 (pa_cons (pv 0) (pa_cons (pe_op op_sub (pe_ix (ix_seqK (K := K) rfl) (pe_ix (ix_seqK (K := K) rfl) (pv 1) (pv 3) (fun _ _ => rfl)) pe_int (fun _ _ => rfl)) (pv 6)) pa_nil)))) pa_nil))))))))))))
      (pss_one (ps_if (PW.pt (pw_and (pt_cmpR (op_neDK (K := K) rfl (hr_u hr)) (pv 2) pe_str (nomark _)) (pw_and1 (pt_cmpR (op_neDK (K := K) rfl (hr_u hr)) (pv 2) pe_str (nomark _)))))
      (pss_cons (ps_setLc (i := 8) (own := [("at", 9)]) rfl sc__law_step.nd rfl rfl (sw_true rfl rfl rfl (by decide +kernel)) (pi_range1 (by rfl) T.n_range (pa_cons (pe_callB (call_lenK (K := K) rfl) (by rfl) T.n_len (by decide +kernel) (pa_cons (pv 1) pa_nil)) pa_nil)) (blkOk_by (N := ["state", "shapes", "word", "one", "step", "i", "j", "rows", "fits", "at"]) (sc := defScope s__law_step) (by decide +kernel)) (fun _ _ _ _ _ => (pg_name (i := 9) sc__law_step.nd rfl (by first | exact Or.inl rfl | exact Or.inr rfl))) (fun _ _ _ _ _ => (pts_one (pt_cmpR op_notN (pe_call G__law_made (hr.mono (by decide)) (by rfl) T.D__law_made.g T.D__law_made.F.kp T.D__law_made.b .nil pass0 (pa_cons (pe_tup (pa_cons (pv 2) (pa_cons (pv 3) (pa_cons (pv 9) pa_nil)))) (pa_cons (pv 1) pa_nil))) pe_non (nomark _)))) (fun _ _ _ _ _ => (pv 9)))
    (pss_cons (ps_if (pt_cmpR (op_eqDK (K := K) rfl (hr_u hr)) (pe_callB (call_lenK (K := K) rfl) (by rfl) T.n_len (by decide +kernel) (pa_cons (pv 8) pa_nil)) pe_int (nomark _))
      (pss_one (ps_ret (pe_tup (pa_cons pe_str (pa_cons (pv 3) pa_nil)))))
      pss_nil)
    (pss_one (ps_set (i := 4) sc__law_step.nd rfl (by first | exact Or.inl rfl | exact Or.inr rfl) (pe_tup (pa_cons (pv 2) (pa_cons (pv 3) (pa_cons (pe_ix (ix_seqK (K := K) rfl) (pv 8) (pe_call G__law_draw (hr.mono (by decide)) (by rfl) T.D__law_draw.g T.D__law_draw.F.kp T.D__law_draw.b .nil pass0 (pa_cons (pv 0) (pa_cons (pe_callB (call_lenK (K := K) rfl) (by rfl) T.n_len (by decide +kernel) (pa_cons (pv 8) pa_nil)) pa_nil))) (fun _ _ => rfl)) pa_nil))))))))
      pss_nil)))
    (pss_one (ps_ret (pe_ifExp (pt_cmpR op_isN (pe_call G__law_made (hr.mono (by decide)) (by rfl) T.D__law_made.g T.D__law_made.F.kp T.D__law_made.b .nil pass0 (pa_cons (pv 4) (pa_cons (pv 1) pa_nil))) pe_non (nomark _)) (pe_tup (pa_cons pe_str (pa_cons (pv 3) pa_nil))) (pv 4)))))))), ?_⟩
  try dsimp only [cxOf, Cx.blk, Cx.nox, Cx.wish]
  (refine body_of h fun W ds P eK f => ?_); subst eK
  obtain ⟨shs, rfl, l1, l100, ok, hP⟩ := f
  walk_at "pd"
  refine draw_lit (by decide +kernel) fun w w0 w1 => ?_
  refine rd_ixLm (by omega) (by show w < 9; omega) fun d hd => ?_
  have hk : ∃ k n, d = .str k ∧ kindLen.lookup k = some n := by
    simp only [List.mem_cons, List.not_mem_nil, or_false] at hd
    rcases hd with rfl | rfl | rfl | rfl | rfl | rfl | rfl | rfl | rfl <;> exact ⟨_, _, rfl, rfl⟩
  obtain ⟨k, n, rfl, hk⟩ := hk
  have kf := kind_fine hk
  walk_at "pd"
  rw [List.length_map]
  refine draw_small (by omega) (by omega) fun g g0 g1 => ?_
  have ga : (shs.map shD)[g.toNat]? = some (shD (shAt shs g)) := by
    have lt : g.toNat < shs.length := by omega
    rw [List.getElem?_map, List.getElem?_eq_getElem lt]
    unfold shAt
    simp [lt]
  have gm : shAt shs g ∈ shs := by
    unfold shAt
    have lt : g.toNat < shs.length := by omega
    simp [lt]
  have gok := ok _ gm
  unfold okSh at gok
  generalize hs : shAt shs g = sg at ga gm gok
  obtain ⟨a, b⟩ := sg
  have turn : P (stD "turned" [g]) := hP _ _ _ rfl (made_turned g0 g1 ok) (fun i hi => by
    rw [List.mem_singleton.mp hi]
    exact ⟨g0, by omega⟩)
  refine sd_seq (sd_asg (ev_mid (fun d => d = stD k [g]) (by walk_at "pd"; rfl) ?_))
  rintro _ rfl
  refine sd_cut (fun δ => ∃ (k : Str) (l : List Int) (x5 x6 x7 x8 x9 : Option D) (xk : Option D), δ = [some .st, some (.lst (shs.map shD)), xk, some (.int g), some (stD k l), x5, x6, x7, x8, x9] ∧ kindLen.lookup k = some ((l.length : Int) + 1) ∧ ∀ i ∈ l, 0 ≤ i ∧ i ≤ 1000) ?_ ?_
  · walk_at "pd"
    refine ⟨fun z => ?_, fun z => ?_⟩
    · have z := of_decide_eq_true z
      subst z
      walk_at "pd"
      refine rd_ixL (j := g.toNat) (by omega) ga ?_
      unfold shD
      walk_at "pd"
      have gok : 1 ≤ a ∧ a ≤ 12 ∧ 1 ≤ b ∧ b ≤ 12 := gok
      refine draw_small (by omega) (by omega) fun i i0 i1 => ?_
      walk_at "pd"
      refine rd_ixL (j := g.toNat) (by omega) ga ?_
      unfold shD
      walk_at "pd"
      refine draw_small (by omega) (by omega) fun j j0 j1 => ?_
      walk_at "pd"
      refine rd_ixL (j := g.toNat) (by omega) ga ?_
      unfold shD
      walk_at "pd"
      refine draw_small (by omega) (by omega) fun r r0 r1 => ?_
      walk_at "pd"
      refine rd_ixL (j := g.toNat) (by omega) ga ?_
      unfold shD
      walk_at "pd"
      refine draw_small (by omega) (by omega) fun c c0 c1 => ?_
      walk_at "pd"
      refine ⟨"piece", [g, i, j, 1 + r, 1 + c], _, _, _, _, _, _, rfl, rfl, fun v hv => ?_⟩
      simp only [List.mem_cons, List.not_mem_nil, or_false] at hv
      rcases hv with rfl | rfl | rfl | rfl | rfl <;> omega
    · have n1 := of_decide_eq_false z
      have hone : n = 2 → kindLen.lookup k = some ((([g] : List Int).length : Int) + 1) := fun e => by
        rw [hk, e]
        rfl
      have gb : ∀ i ∈ [g], 0 ≤ i ∧ i ≤ 1000 := fun i hi => by
        rw [List.mem_singleton.mp hi]
        exact ⟨g0, by omega⟩
      walk_at "pd"
      refine ⟨fun z => ?_, fun z => ?_⟩
      · have n2 : ¬ k = "turned" := by
          have : decide (k = "turned") = false := by simpa using z
          exact of_decide_eq_false this
        walk_at "pd"
        refine ⟨fun z => ?_, fun z => ?_⟩
        · have n3 : ¬ k = "star" := by
            have : decide (k = "star") = false := by simpa using z
            exact of_decide_eq_false this
          have h3 : n = 3 := by
            rcases kind_cases hk with ⟨_, h⟩ | ⟨_, h⟩ | ⟨h, _⟩ | ⟨_, h⟩ | ⟨_, h⟩ | ⟨h, _⟩ | ⟨h, _⟩ <;> first | exact h | exact absurd h n1 | exact absurd h n2 | exact absurd h n3
          subst h3
          refine sd_seq (sd_asg (ev_mid (fun d => ∃ acc : List D, d = .lst acc ∧ acc.length ≤ shs.length ∧ ∀ e ∈ acc, ∃ v : Int, e = .int v ∧ 0 ≤ v ∧ v ≤ 1000) ?_ ?_))
          · refine ev_lc (it_rng1 ?_)
            walk_at "pd"
            rw [List.length_map]
            refine ⟨_, rfl, by omega, by omega, by rw [rngD_length]; omega, fun i acc => acc.length ≤ i ∧ ∀ e ∈ acc, ∃ v : Int, e = .int v ∧ 0 ≤ v ∧ v ≤ 1000, ⟨Nat.zero_le _, fun e he => by cases he⟩, fun i d acc hd ha => ⟨[9], by simp, gd_name ?_⟩, fun acc ha => ⟨acc, rfl, ?_, ha.2⟩⟩
            · obtain ⟨hi, rfl⟩ := rngD_get hd
              have hx : ∀ v : Int, D.tup [.str k, .int g, .int v] = stD k [g, v] := fun _ => rfl
              walk_at "pd"
              refine ⟨shs, _, rfl, by omega, by simp only [Jd, JdA, and_self], by show (3 : Int) ≤ 1000; decide, ?_⟩
              have more : acc.length + 1 ≤ i + 1 ∧ ∀ e ∈ acc ++ [D.int (0 + (i : Int))], ∃ v : Int, e = .int v ∧ 0 ≤ v ∧ v ≤ 1000 := ⟨by have := ha.1; omega, fun e he => by
                rcases List.mem_append.mp he with he | he
                · exact ha.2 e he
                · exact ⟨_, List.mem_singleton.mp he, by omega, by omega⟩⟩
              have same : acc.length ≤ i + 1 ∧ ∀ e ∈ acc, ∃ v : Int, e = .int v ∧ 0 ≤ v ∧ v ≤ 1000 := ⟨by have := ha.1; omega, ha.2⟩
              cases madeD shs (D.tup [D.str k, D.int g, D.int (0 + ↑i)]) with
              | none =>
                unfold optSh
                walk_at "pd"
                exact same
              | some q =>
                unfold optSh shD
                walk_at "pd"
                exact ⟨by rw [List.length_append]; exact more.1, more.2⟩
            · have := ha.1
              rw [rngD_length] at this
              omega
          · rintro _ ⟨acc, rfl, hl, hacc⟩
            walk_at "pd"
            refine ⟨fun z => ?_, fun z => ?_⟩
            · walk_at "pd"
              exact turn
            · have z := of_decide_eq_false z
              walk_at "pd"
              refine draw_small (by omega) (by omega) fun j j0 j1 => ?_
              refine rd_ixLm (by omega) (by omega) fun d hd => ?_
              obtain ⟨v, rfl, v0, v1⟩ := hacc d hd
              walk_at "pd"
              refine ⟨k, [g, v], _, _, _, _, _, _, rfl, hk, fun i hi => ?_⟩
              simp only [List.mem_cons, List.not_mem_nil, or_false] at hi
              rcases hi with rfl | rfl
              · exact ⟨g0, by omega⟩
              · exact ⟨v0, v1⟩
        · have e : k = "star" := by
            have : decide (k = "star") = true := by simpa using z
            exact of_decide_eq_true this
          subst e
          walk_at "pd"
          exact ⟨"star", [g], _, _, _, _, _, _, rfl, rfl, gb⟩
      · have e : k = "turned" := by
          have : decide (k = "turned") = true := by simpa using z
          exact of_decide_eq_true this
        subst e
        walk_at "pd"
        exact ⟨"turned", [g], _, _, _, _, _, _, rfl, rfl, gb⟩
  · rintro δ ⟨k, l, x5, x6, x7, x8, x9, xk, rfl, hk, hl⟩
    have jl : JdA W.K (l.map D.int) := jdA_of fun x hx => by
      obtain ⟨i, _, rfl⟩ := List.mem_map.mp hx
      simp only [Jd]
    walk_at "pd"
    refine ⟨shs, stD k l, rfl, by omega, by unfold stD; simp only [Jd, JdA]; exact ⟨trivial, jl⟩, ?_, ?_⟩
    · have : l.length ≤ 5 := by
        rcases kind_cases hk with ⟨_, h⟩ | ⟨_, h⟩ | ⟨_, h⟩ | ⟨_, h⟩ | ⟨_, h⟩ | ⟨_, h⟩ | ⟨_, h⟩ <;> omega
      show (((D.str k :: l.map D.int).length : Nat) : Int) ≤ 1000
      rw [List.length_cons, List.length_map]
      omega
    · cases em : madeD shs (stD k l) with
      | none =>
        unfold optSh
        walk_at "pd"
        exact turn
      | some q =>
        unfold optSh
        walk_at "pd"
        exact hP k l q hk em hl
/-- what a step that fits is -/
def isSt (x : D) : Prop := ∃ k l, x = stD k l ∧ kindLen.lookup k = some ((l.length : Int) + 1) ∧ ∀ i ∈ l, 0 ≤ i ∧ i ≤ 1000
theorem isSt_nref {x : D} (h : isSt x) : x.nref = true := by
  obtain ⟨k, l, rfl, _⟩ := h
  refine nref_tup fun y hy => ?_
  rcases List.mem_cons.mp hy with rfl | hy
  · rfl
  · obtain ⟨i, _, rfl⟩ := List.mem_map.mp hy
    rfl
theorem isSt_gd (K : PySem.W.Frag) {x : D} (h : isSt x) : Gd K x ∧ x.len ≤ 6 := by
  obtain ⟨k, l, rfl, hk, hl⟩ := h
  have l5 : l.length ≤ 5 := by
    rcases kind_cases hk with ⟨_, h⟩ | ⟨_, h⟩ | ⟨_, h⟩ | ⟨_, h⟩ | ⟨_, h⟩ | ⟨_, h⟩ | ⟨_, h⟩ <;> omega
  have ll : (D.str k :: l.map D.int).length ≤ 6 := by
    rw [List.length_cons, List.length_map]
    omega
  refine ⟨Gd.tup (fun y hy => ?_) (by omega), by show (((D.str k :: l.map D.int).length : Nat) : Int) ≤ 6; omega⟩
  rcases List.mem_cons.mp hy with rfl | hy
  · exact ⟨by simp only [Jd], by simp only [D.slim]⟩
  · obtain ⟨i, hi, rfl⟩ := List.mem_map.mp hy
    have := hl i hi
    exact Gd.int K (by omega)
theorem made_okSh {shs : List Sh} {x : D} {q : Sh} (ok : ∀ p ∈ shs, okSh p) (h : madeD shs x = some q) : okSh q := by
  unfold madeD at h
  cases e : stepOf x with
  | none => rw [e] at h; cases h
  | some p =>
    obtain ⟨k, l⟩ := p
    obtain ⟨rfl, hk⟩ := stepOf_some e
    rw [e] at h
    simp only at h
    split at h
    · rename_i hall
      obtain ⟨hf, s1, s2⟩ := small_ok h
      have mem : ∀ v, okSrc shs.length v = true → okSh (shAt shs v) := fun v hv => by
        unfold okSrc at hv
        simp only [Bool.and_eq_true, decide_eq_true_eq] at hv
        have lt : v.toNat < shs.length := by omega
        refine ok _ ?_
        unfold shAt
        simp [lt]
      have one : okSh (shAt shs (l.getD 0 0)) := by
        rcases kind_len hk with ⟨h3, a, b, rfl⟩ | ⟨h3, ⟨a, rfl⟩ | ⟨_, g, i, j, r, c, rfl⟩⟩
        · unfold srcs at hall
          rw [if_pos h3] at hall
          exact mem a (List.all_eq_true.mp hall a (by simp))
        · unfold srcs at hall
          rw [if_neg h3] at hall
          exact mem a (List.all_eq_true.mp hall a (by simp))
        · unfold srcs at hall
          rw [if_neg h3] at hall
          exact mem g (List.all_eq_true.mp hall g (by simp))
      have two : kindLen.lookup k = some 3 → okSh (shAt shs (l.getD 1 0)) := fun h3 => by
        rcases kind_len hk with ⟨_, a, b, rfl⟩ | ⟨n3, _⟩
        · unfold srcs at hall
          rw [if_pos h3] at hall
          exact mem b (List.all_eq_true.mp hall b (by simp))
        · exact absurd h3 n3
      generalize shAt shs (l.getD 0 0) = o1 at hf one
      generalize shAt shs (l.getD 1 0) = o2 at hf two
      obtain ⟨a, b⟩ := o1
      obtain ⟨c, d⟩ := o2
      obtain ⟨q1, q2⟩ := q
      unfold okSh at one two ⊢
      rcases kind_cases hk with ⟨rfl, hn⟩ | ⟨rfl, hn⟩ | ⟨rfl, hn⟩ | ⟨rfl, hn⟩ | ⟨rfl, hn⟩ | ⟨rfl, hn⟩ | ⟨rfl, hn⟩
      · have hf : (if (a, b) = (c, d) then some (a, b) else none) = some (q1, q2) := hf
        split at hf
        · cases hf
          exact one
        · cases hf
      · have two := two rfl
        have hf : (if b = c then some (a, d) else none) = some (q1, q2) := hf
        split at hf
        · cases hf
          simp only at *
          omega
        · cases hf
      · have hf : some (b, a) = some (q1, q2) := hf
        cases hf
        simp only at *
        omega
      · have two := two rfl
        have hf : (if a = c then some (a, b + d) else none) = some (q1, q2) := hf
        split at hf
        · cases hf
          simp only at *
          omega
        · cases hf
      · have two := two rfl
        have hf : (if b = d then some (a + c, b) else none) = some (q1, q2) := hf
        split at hf
        · cases hf
          simp only at *
          omega
        · cases hf
      · rcases kind_len hk with ⟨h3, _⟩ | ⟨_, ⟨g, rfl⟩ | ⟨_, g, i, j, r, ee, rfl⟩⟩
        · cases h3
        · simp at hn
        · have hf : (if min i j < 0 ∨ min r ee < 1 then none else if a < i + r ∨ b < j + ee then none else some (r, ee)) = some (q1, q2) := hf
          split at hf
          · cases hf
          · split at hf
            · cases hf
            · cases hf
              simp only at *
              omega
      · have hf : (if a = b then some (a, b) else none) = some (q1, q2) := hf
        split at hf
        · cases hf
          exact one
        · cases hf
    · cases h
theorem runS_snoc {x : D} {cur : List Sh} {q : Sh} (hq : madeD cur x = some q) : ∀ {xs : List D} {shs : List Sh} {k : Nat}, runS shs xs k = .inl cur → runS shs (xs ++ [x]) k = .inl (cur ++ [q])
  | [], shs, k, h => by
    cases h
    show runS cur [x] k = _
    unfold runS
    rw [hq]
    rfl
  | y :: xs, shs, k, h => by
    rw [List.cons_append]
    unfold runS at h ⊢
    cases e : madeD shs y with
    | none => rw [e] at h; cases h
    | some p =>
      rw [e] at h
      exact runS_snoc hq h
def F__law_steps : FJ := fun ds P => ∃ (shs : List Sh) (m : Int), ds = [.st, .lst (shs.map shD), .int m] ∧ 1 ≤ shs.length ∧ shs.length ≤ 10 ∧ 0 ≤ m ∧ m ≤ 20 ∧ (∀ p ∈ shs, okSh p) ∧ ∀ (xs : List D) (r : List Sh), xs.length = m.toNat → (∀ x ∈ xs, isSt x) → runS shs xs 0 = .inl r → P (.tup xs) (r.map shD)
theorem len__law_steps : ∀ ds P, F__law_steps ds P → ds.length = 3 := by (intro ds P h; first | exact h | (obtain ⟨_, rfl, _⟩ := h; rfl) | (obtain ⟨_, _, rfl, _⟩ := h; rfl) | (obtain ⟨_, _, _, rfl, _⟩ := h; rfl) | (obtain ⟨_, _, _, _, rfl, _⟩ := h; rfl) | (obtain ⟨_, _, _, _, _, rfl, _⟩ := h; rfl) | (obtain ⟨_, _, _, _, _, _, rfl, _⟩ := h; rfl) | (obtain ⟨_, _, _, _, _, _, _, rfl, _⟩ := h; rfl) | (obtain ⟨_, _, _, _, _, _, _, _, rfl, _⟩ := h; rfl) | (obtain ⟨_, _, _, _, _, _, _, _, _, rfl, _⟩ := h; rfl) | (obtain ⟨_, _, _, _, _, _, _, _, _, _, rfl, _⟩ := h; rfl) | (obtain ⟨_, _, _, _, _, _, _, _, _, _, _, rfl, _⟩ := h; rfl) | (obtain ⟨_, _, _, _, _, _, _, _, _, _, _, _, rfl, _⟩ := h; rfl) | (obtain ⟨_, _, _, _, _, _, _, _, _, _, _, _, _, rfl, _⟩ := h; rfl) | (obtain ⟨rfl, _⟩ := h; rfl))
theorem ok__law_steps (T : Txt K mg) : FnOk Pg T.w0 K mg base CX0 4 T.D__law_steps.f T.D__law_steps.d ["state", "shapes", "many"] ((spJ K F__law_steps)) := by
  have G__law_made := ok__law_made (Pg := Pg) (base := base) T
  have G__law_step := ok__law_step (Pg := Pg) (base := base) T
  refine T.D__law_steps.F.ok (k := 3) sc__law_steps (spJ_len (len__law_steps)) (fun cdv A outer s H vs Q E hr h => ?_)
  refine ⟨_, (pss_cons (ps_set (i := 3) sc__law_steps.nd rfl (by first | exact Or.inl rfl | exact Or.inr rfl) (pe_lst pa_nil))
    (pss_cons (ps_for PassesOwn.never rfl (pi_range1 (by rfl) T.n_range (pa_cons (pv 2) pa_nil)) (pg_name (i := 4) sc__law_steps.nd rfl (by first | exact Or.inl rfl | exact Or.inr rfl))
      (pss_cons (ps_set (i := 5) sc__law_steps.nd rfl (by first | exact Or.inl rfl | exact Or.inr rfl) (pe_call G__law_step (hr.mono (by decide)) (by rfl) T.D__law_step.g T.D__law_step.F.kp T.D__law_step.b .nil pass0 (pa_cons (pv 0) (pa_cons (pv 1) pa_nil))))
    (pss_cons (ps_expr (pe_bm PySem.F.plainAttrs_list PySem.F.slot_list_append PySem.F.type_list_append mt_append (pv 3) (pa_cons (pv 5) pa_nil)))
    (pss_one (ps_expr (pe_bm PySem.F.plainAttrs_list PySem.F.slot_list_append PySem.F.type_list_append mt_append (pv 1) (pa_cons (pe_call G__law_made (hr.mono (by decide)) (by rfl) T.D__law_made.g T.D__law_made.F.kp T.D__law_made.b .nil pass0 (pa_cons (pv 5) (pa_cons (pv 1) pa_nil))) pa_nil)))))))
    (pss_one (ps_ret (pe_callTy (call_tuple_ofK (K := K) rfl) (by rfl) T.n_tuple (by decide +kernel) (pa_cons (pv 3) pa_nil)))))), ?_⟩
  try dsimp only [cxOf, Cx.blk, Cx.nox, Cx.wish]
  refine body_ofJ h fun W d0 es d2 a P eK f => ?_
  subst eK
  obtain ⟨shs, m, e, l1, l10, m0, m1, ok, hP⟩ := f
  cases e
  refine so_seq (so_new ?_)
  walk_at "pd"
  refine fun p np => ?_
  have npa : a ≠ p := np _ (List.mem_singleton.mpr rfl)
  refine so_for (it_rng1 ?_)
  walk_at "pd"
  refine ⟨_, rfl, by omega, by omega, fun i ω δ => ∃ cur xs c d, Has ω p xs ∧ Has ω a (cur.map shD) ∧ δ = [some .st, some (.obj a), some (.int m), some (.obj p), c, d] ∧ cur.length = shs.length + i ∧ xs.length = i ∧ (∀ x ∈ xs, isSt x) ∧ (∀ q ∈ cur, okSh q) ∧ runS shs xs 0 = .inl cur, ⟨shs, [], none, none, Has.new np, (Has.new (fun x hx => by cases hx)).cons npa, rfl, rfl, rfl, fun x hx => (by cases hx), ok, rfl⟩, fun i d ω δ hd hI => ?_, fun ω δ hI => ?_⟩
  · obtain ⟨cur, xs, c, d', hp, ha, rfl, lc, lx, hx, hc, hr⟩ := hI
    obtain ⟨hi, rfl⟩ := rngD_get hd
    refine ⟨_, gd_name ?_⟩
    refine so_seq (so_asgL (evl_put (a := a) 1 rfl ha.1 (evl_ev ?_)))
    walk_at "pd"
    refine ⟨cur, rfl, by omega, by omega, hc, fun k l q hk hq hl => ?_⟩
    have st : isSt (stD k l) := ⟨k, l, rfl, hk, hl⟩
    refine ⟨isSt_nref st, ?_⟩
    refine so_seq (so_appL (i := 3) rfl hp (by omega) (evl_ev ?_))
    walk_at "pd"
    refine ⟨isSt_nref st, ?_⟩
    refine so_appL (i := 1) rfl (ha.off npa) (by rw [List.length_map]; omega) (evl_put (a := a) 1 rfl (ha.off npa).1 (evl_ev ?_))
    walk_at "pd"
    obtain ⟨gs, ls⟩ := isSt_gd W.K st
    refine ⟨cur, stD k l, rfl, by omega, gs.j, by omega, nref_opt _, ?_⟩
    rw [hq]
    refine ⟨cur ++ [q], xs ++ [stD k l], _, _, (hp.put).off (Ne.symm npa), ?_, rfl, by rw [List.length_append, List.length_singleton]; omega, by rw [List.length_append, List.length_singleton]; omega, fun x hm => ?_, fun x hm => ?_, runS_snoc hq hr⟩
    · have := (ha.off (f := fun es => es ++ [stD k l]) npa).put (f := fun es => es ++ [optSh (some q)])
      rw [List.map_append]
      exact this
    · rcases List.mem_append.mp hm with hm | hm
      · exact hx x hm
      · rw [List.mem_singleton.mp hm]
        exact st
    · rcases List.mem_append.mp hm with hm | hm
      · exact hc x hm
      · rw [List.mem_singleton.mp hm]
        exact made_okSh hc hq
  · obtain ⟨cur, xs, c, d', hp, ha, rfl, lc, lx, hx, hc, hr⟩ := hI
    rw [rngD_length] at lx
    refine ⟨_, ha.1, evl_put (a := p) 3 rfl hp.1 (evl_ev ?_)⟩
    walk_at "pd"
    exact ⟨nref_tup fun x hm => isSt_nref (hx x hm), hP xs cur lx hx hr⟩
def F__law_low : FD := fun ds P => ∃ a b : Int, ds = [.int a, .int b] ∧ 0 < b ∧ b.natAbs < 2 ^ 8000 ∧ P (fr (lowF a b))
theorem len__law_low : ∀ ds P, F__law_low ds P → ds.length = 2 := by (intro ds P h; first | exact h | (obtain ⟨_, rfl, _⟩ := h; rfl) | (obtain ⟨_, _, rfl, _⟩ := h; rfl) | (obtain ⟨_, _, _, rfl, _⟩ := h; rfl) | (obtain ⟨_, _, _, _, rfl, _⟩ := h; rfl) | (obtain ⟨_, _, _, _, _, rfl, _⟩ := h; rfl) | (obtain ⟨_, _, _, _, _, _, rfl, _⟩ := h; rfl) | (obtain ⟨_, _, _, _, _, _, _, rfl, _⟩ := h; rfl) | (obtain ⟨_, _, _, _, _, _, _, _, rfl, _⟩ := h; rfl) | (obtain ⟨_, _, _, _, _, _, _, _, _, rfl, _⟩ := h; rfl) | (obtain ⟨_, _, _, _, _, _, _, _, _, _, rfl, _⟩ := h; rfl) | (obtain ⟨_, _, _, _, _, _, _, _, _, _, _, rfl, _⟩ := h; rfl) | (obtain ⟨_, _, _, _, _, _, _, _, _, _, _, _, rfl, _⟩ := h; rfl) | (obtain ⟨_, _, _, _, _, _, _, _, _, _, _, _, _, rfl, _⟩ := h; rfl) | (obtain ⟨rfl, _⟩ := h; rfl))
theorem ok__law_low (T : Txt K mg) : FnOk Pg T.w0 K mg base CX0 1 T.D__law_low.f T.D__law_low.d ["upper", "lower"] ((spD K F__law_low)) := by
  refine T.D__law_low.F.ok (k := 0) sc__law_low (spD_len (len__law_low)) (fun cdv A outer s H vs Q E hr h => ?_)
  refine ⟨_, (pss_cons (ps_set (i := 2) sc__law_low.nd rfl (by first | exact Or.inl rfl | exact Or.inr rfl) (pe_callB call_abs (by rfl) T.n_abs (by decide +kernel) (pa_cons (pv 0) pa_nil)))
    (pss_cons (ps_set (i := 3) sc__law_low.nd rfl (by first | exact Or.inl rfl | exact Or.inr rfl) (pe_callB call_abs (by rfl) T.n_abs (by decide +kernel) (pa_cons (pv 1) pa_nil)))
    (pss_cons (ps_while PassesOwn.never (pt_cmpR op_gt (pv 3) pe_int (nomark _)) (pss_cons (ps_set (i := 4) sc__law_low.nd rfl (by first | exact Or.inl rfl | exact Or.inr rfl) (pe_op op_mod (pe_callTy call_int1 (by rfl) T.n_int (by decide +kernel) (pa_cons (pv 2) pa_nil)) (pv 3)))
    (pss_cons (ps_set (i := 2) sc__law_low.nd rfl (by first | exact Or.inl rfl | exact Or.inr rfl) (pv 3))
    (pss_one (ps_set (i := 3) sc__law_low.nd rfl (by first | exact Or.inl rfl | exact Or.inr rfl) (pv 4))))))
    (pss_cons (ps_if (pt_cmpR op_lt (pv 1) pe_int (nomark _))
      (pss_one (ps_set (i := 2) sc__law_low.nd rfl (by first | exact Or.inl rfl | exact Or.inr rfl) (pe_un un_neg (pv 2))))
      pss_nil)
    (pss_one (ps_ret (pe_tup (pa_cons (pe_op op_fdivW (pv 0) (pv 2)) (pa_cons (pe_op op_fdivW (pv 1) (pv 2)) pa_nil))))))))), ?_⟩
  try dsimp only [cxOf, Cx.blk, Cx.nox, Cx.wish]
  (refine body_of h fun W ds P eK f => ?_); subst eK
  obtain ⟨a, b, rfl, hb, hs, hP⟩ := f
  walk_at "pd"
  refine sd_while (fun δ => ∃ x y r, δ = [some (.int a), some (.int b), some (.int x), some (.int y), r] ∧ 0 ≤ x ∧ 0 ≤ y ∧ Nat.gcd x.natAbs y.natAbs = gcdI a b) (fun δ => match δ with | [_, _, _, some (.int y), _] => y.natAbs | _ => 0) ⟨_, _, none, rfl, ?_, ?_, ?_⟩ ?_
  · split <;> omega
  · split <;> omega
  · show Nat.gcd _ _ = Nat.gcd _ _
    congr 1 <;> split <;> omega
  · rintro δ ⟨x, y, r, rfl, hx, hy, hg⟩
    walk_at "pd"
    refine ⟨fun hb1 => ?_, fun hb1 => ?_⟩
    · have hy1 := of_decide_eq_true hb1
      walk_at "pd"
      · exact hy1
      · refine ⟨⟨y, x % y, _, rfl, hy, Int.emod_nonneg _ (by omega), ?_⟩, ?_⟩
        · rw [← hg, Int.natAbs_emod_of_nonneg hx]
          rw [Nat.gcd_comm y.natAbs, ← Nat.gcd_rec, Nat.gcd_comm]
        · show (x % y).natAbs < y.natAbs
          have h1 := Int.emod_nonneg x (b := y) (by omega)
          have h2 := Int.emod_lt_of_pos x hy1
          omega
    · have hy1 := of_decide_eq_false hb1
      have hy0 : y = 0 := by omega
      subst hy0
      have hxg : x = (gcdI a b : Int) := by
        rw [← hg]
        simp
        omega
      walk_at "pd"
      refine ⟨fun hb2 => ?_, fun hb2 => ?_⟩
      · have := of_decide_eq_true hb2
        omega
      · walk_at "pd"
        · rw [hxg]; exact div_gcd hb hs
        · rw [hxg]; exact div_gcd hb hs
        · rw [hxg]; exact hP
/-- an exponent as a Grid lets it -/
def Ex (p : Fr) : Prop := IsF p ∧ p.1.natAbs ≤ 6 ∧ p.2 ≤ 4
theorem ex_low {a b : Int} (ha : a.natAbs ≤ 6) (h0 : 0 < b) (hb : b ≤ 4) : Ex (lowF a b) := by
  refine ⟨lowF_isF h0, ?_, ?_⟩
  · show (a / (gcdI a b : Int)).natAbs ≤ 6
    rw [Int.natAbs_ediv_of_dvd (gcdI_dvd1 a b)]
    exact Nat.le_trans (Nat.div_le_self _ _) ha
  · show b / (gcdI a b : Int) ≤ 4
    exact Int.le_trans (Int.ediv_le_self _ (by omega)) hb
def F__law_exponent : FD := fun ds P => ds = [.st] ∧ ∀ p : Fr, Ex p → P (fr p)
theorem len__law_exponent : ∀ ds P, F__law_exponent ds P → ds.length = 1 := by (intro ds P h; first | exact h | (obtain ⟨_, rfl, _⟩ := h; rfl) | (obtain ⟨_, _, rfl, _⟩ := h; rfl) | (obtain ⟨_, _, _, rfl, _⟩ := h; rfl) | (obtain ⟨_, _, _, _, rfl, _⟩ := h; rfl) | (obtain ⟨_, _, _, _, _, rfl, _⟩ := h; rfl) | (obtain ⟨_, _, _, _, _, _, rfl, _⟩ := h; rfl) | (obtain ⟨_, _, _, _, _, _, _, rfl, _⟩ := h; rfl) | (obtain ⟨_, _, _, _, _, _, _, _, rfl, _⟩ := h; rfl) | (obtain ⟨_, _, _, _, _, _, _, _, _, rfl, _⟩ := h; rfl) | (obtain ⟨_, _, _, _, _, _, _, _, _, _, rfl, _⟩ := h; rfl) | (obtain ⟨_, _, _, _, _, _, _, _, _, _, _, rfl, _⟩ := h; rfl) | (obtain ⟨_, _, _, _, _, _, _, _, _, _, _, _, rfl, _⟩ := h; rfl) | (obtain ⟨_, _, _, _, _, _, _, _, _, _, _, _, _, rfl, _⟩ := h; rfl) | (obtain ⟨rfl, _⟩ := h; rfl))
theorem ok__law_exponent (T : Txt K mg) : FnOk Pg T.w0 K mg base CX0 3 T.D__law_exponent.f T.D__law_exponent.d ["state"] ((spD K F__law_exponent)) := by
  have G__law_draw := ok__law_draw (Pg := Pg) (base := base) T
  have G__law_low := ok__law_low (Pg := Pg) (base := base) T
  refine T.D__law_exponent.F.ok (k := 2) sc__law_exponent (spD_len (len__law_exponent)) (fun cdv A outer s H vs Q E hr h => ?_)
  refine ⟨_, (pss_cons (ps_set (i := 1) sc__law_exponent.nd rfl (by first | exact Or.inl rfl | exact Or.inr rfl) (pe_op (op_plusK (K := K) rfl) pe_int (pe_call G__law_draw (hr.mono (by decide)) (by rfl) T.D__law_draw.g T.D__law_draw.F.kp T.D__law_draw.b .nil pass0 (pa_cons (pv 0) (pa_cons pe_int pa_nil)))))
    (pss_one (ps_ret (pe_call G__law_low (hr.mono (by decide)) (by rfl) T.D__law_low.g T.D__law_low.F.kp T.D__law_low.b .nil pass0 (pa_cons (pe_op op_sub (pe_call G__law_draw (hr.mono (by decide)) (by rfl) T.D__law_draw.g T.D__law_draw.F.kp T.D__law_draw.b .nil pass0 (pa_cons (pv 0) (pa_cons pe_int pa_nil))) pe_int) (pa_cons (pv 1) pa_nil)))))), ?_⟩
  try dsimp only [cxOf, Cx.blk, Cx.nox, Cx.wish]
  (refine body_of h fun W ds P eK f => ?_); subst eK
  obtain ⟨rfl, hP⟩ := f
  walk_at "pd"
  refine draw_lit (by decide +kernel) fun k k0 k1 => ?_
  walk_at "pd"
  refine draw_lit (by decide +kernel) fun r r0 r1 => ?_
  walk_at "pd"
  exact ⟨_, _, rfl, by omega, lt_pow (m := 10) (show (1 + k).natAbs < 2 ^ 10 by omega) (by decide), hP _ (ex_low (by omega) (by omega) (by omega))⟩
theorem frl_of {Q : Fr → Prop} {l : List D} (h : ∀ y ∈ l, ∃ p : Fr, y = fr p ∧ Q p) : ∃ u : List Fr, l = u.map fr ∧ ∀ p ∈ u, Q p := by
  induction l with
  | nil => exact ⟨[], rfl, fun p hp => by cases hp⟩
  | cons y l ih =>
    obtain ⟨p, rfl, h1⟩ := h y List.mem_cons_self
    obtain ⟨u, rfl, h3⟩ := ih fun z hz => h z (List.mem_cons_of_mem _ hz)
    refine ⟨p :: u, rfl, fun q hq => ?_⟩
    rcases List.mem_cons.mp hq with rfl | hq
    · exact h1
    · exact h3 q hq
def F__law_unit : FD := fun ds P => ∃ n : Int, ds = [.st, .int n] ∧ 0 ≤ n ∧ n ≤ 3 ∧ ∀ u : List Fr, (u.length : Int) = n → (∀ p ∈ u, Ex p) → P (un u)
theorem len__law_unit : ∀ ds P, F__law_unit ds P → ds.length = 2 := by (intro ds P h; first | exact h | (obtain ⟨_, rfl, _⟩ := h; rfl) | (obtain ⟨_, _, rfl, _⟩ := h; rfl) | (obtain ⟨_, _, _, rfl, _⟩ := h; rfl) | (obtain ⟨_, _, _, _, rfl, _⟩ := h; rfl) | (obtain ⟨_, _, _, _, _, rfl, _⟩ := h; rfl) | (obtain ⟨_, _, _, _, _, _, rfl, _⟩ := h; rfl) | (obtain ⟨_, _, _, _, _, _, _, rfl, _⟩ := h; rfl) | (obtain ⟨_, _, _, _, _, _, _, _, rfl, _⟩ := h; rfl) | (obtain ⟨_, _, _, _, _, _, _, _, _, rfl, _⟩ := h; rfl) | (obtain ⟨_, _, _, _, _, _, _, _, _, _, rfl, _⟩ := h; rfl) | (obtain ⟨_, _, _, _, _, _, _, _, _, _, _, rfl, _⟩ := h; rfl) | (obtain ⟨_, _, _, _, _, _, _, _, _, _, _, _, rfl, _⟩ := h; rfl) | (obtain ⟨_, _, _, _, _, _, _, _, _, _, _, _, _, rfl, _⟩ := h; rfl) | (obtain ⟨rfl, _⟩ := h; rfl))
theorem ok__law_unit (T : Txt K mg) : FnOk Pg T.w0 K mg base CX0 4 T.D__law_unit.f T.D__law_unit.d ["state", "bases"] ((spD K F__law_unit)) := by
  have G__law_exponent := ok__law_exponent (Pg := Pg) (base := base) T
  refine T.D__law_unit.F.ok (k := 3) sc__law_unit (spD_len (len__law_unit)) (fun cdv A outer s H vs Q E hr h => ?_)
  refine ⟨_, (pss_one (ps_ret (pe_callTy (call_tuple_ofK (K := K) rfl) (by rfl) T.n_tuple (by decide +kernel) (pa_cons (pe_lc (own := [("k", 2)]) rfl sc__law_unit.nd (pi_range1 (by rfl) T.n_range (pa_cons (pv 1) pa_nil)) (blkOk_by (N := ["state", "bases", "k"]) (sc := defScope s__law_unit) (by decide +kernel)) (fun _ _ _ _ _ => (pg_name (i := 2) sc__law_unit.nd rfl (by first | exact Or.inl rfl | exact Or.inr rfl))) (fun _ _ _ _ _ => pts_nil) (fun _ _ _ _ _ => (pe_call G__law_exponent (hr.mono (by decide)) (by rfl) T.D__law_exponent.g T.D__law_exponent.F.kp T.D__law_exponent.b .nil pass0 (pa_cons (pv 0) pa_nil)))) pa_nil)))), ?_⟩
  try dsimp only [cxOf, Cx.blk, Cx.nox, Cx.wish]
  (refine body_of h fun W ds P eK f => ?_); subst eK
  obtain ⟨n, rfl, h0, h3, hP⟩ := f
  walk_at "pd"
  refine ev_lcAll (fun y => ∃ p : Fr, y = fr p ∧ Ex p) (it_rng1 ?_)
  walk_at "pd"
  refine ⟨_, rfl, by omega, by omega, by rw [rngD_length]; omega, fun i d hd => ⟨[2], by simp, gd_name ?_⟩, fun l hl hG => ?_⟩
  · walk_at "pd"
    exact ⟨rfl, fun p h => ⟨p, rfl, h⟩⟩
  obtain ⟨u, rfl, hu⟩ := frl_of hG
  rw [rngD_length, List.length_map] at hl
  walk_at "pd"
  exact hP u (by omega) hu
def F__law_cell : FD := fun ds P => ∃ n s : Int, ds = [.st, .int n, .int s] ∧ 0 ≤ n ∧ n ≤ 3 ∧ 0 < s ∧ s < 1000 ∧ ∀ c, isCl n c = true → P c
theorem len__law_cell : ∀ ds P, F__law_cell ds P → ds.length = 3 := by (intro ds P h; first | exact h | (obtain ⟨_, rfl, _⟩ := h; rfl) | (obtain ⟨_, _, rfl, _⟩ := h; rfl) | (obtain ⟨_, _, _, rfl, _⟩ := h; rfl) | (obtain ⟨_, _, _, _, rfl, _⟩ := h; rfl) | (obtain ⟨_, _, _, _, _, rfl, _⟩ := h; rfl) | (obtain ⟨_, _, _, _, _, _, rfl, _⟩ := h; rfl) | (obtain ⟨_, _, _, _, _, _, _, rfl, _⟩ := h; rfl) | (obtain ⟨_, _, _, _, _, _, _, _, rfl, _⟩ := h; rfl) | (obtain ⟨_, _, _, _, _, _, _, _, _, rfl, _⟩ := h; rfl) | (obtain ⟨_, _, _, _, _, _, _, _, _, _, rfl, _⟩ := h; rfl) | (obtain ⟨_, _, _, _, _, _, _, _, _, _, _, rfl, _⟩ := h; rfl) | (obtain ⟨_, _, _, _, _, _, _, _, _, _, _, _, rfl, _⟩ := h; rfl) | (obtain ⟨_, _, _, _, _, _, _, _, _, _, _, _, _, rfl, _⟩ := h; rfl) | (obtain ⟨rfl, _⟩ := h; rfl))
theorem ok__law_cell (T : Txt K mg) : FnOk Pg T.w0 K mg base CX0 5 T.D__law_cell.f T.D__law_cell.d ["state", "bases", "share"] ((spD K F__law_cell)) := by
  have G__law_draw := ok__law_draw (Pg := Pg) (base := base) T
  have G__law_unit := ok__law_unit (Pg := Pg) (base := base) T
  refine T.D__law_cell.F.ok (k := 4) sc__law_cell (spD_len (len__law_cell)) (fun cdv A outer s H vs Q E hr h => ?_)
  refine ⟨_, (pss_cons (ps_if (pt_cmpR (op_eqDK (K := K) rfl (hr_u hr)) (pe_call G__law_draw (hr.mono (by decide)) (by rfl) T.D__law_draw.g T.D__law_draw.F.kp T.D__law_draw.b .nil pass0 (pa_cons (pv 0) (pa_cons (pv 2) pa_nil))) pe_int (nomark _))
      (pss_one (ps_ret pe_non))
      pss_nil)
    (pss_one (ps_ret (pe_call G__law_unit (hr.mono (by decide)) (by rfl) T.D__law_unit.g T.D__law_unit.F.kp T.D__law_unit.b .nil pass0 (pa_cons (pv 0) (pa_cons (pv 1) pa_nil)))))), ?_⟩
  try dsimp only [cxOf, Cx.blk, Cx.nox, Cx.wish]
  (refine body_of h fun W ds P eK f => ?_); subst eK
  obtain ⟨n, s, rfl, h0, h3, s0, s1, hP⟩ := f
  walk_at "pd"
  refine draw_small (by omega) (by omega) fun r r0 r1 => ?_
  walk_at "pd"
  refine ⟨fun z => ?_, fun z => ?_⟩
  · walk_at "pd"
    exact hP _ rfl
  · walk_at "pd"
    exact ⟨n, rfl, h0, h3, fun u hl hu => hP _ (cl_un hl hu)⟩
/-- rows of so many cells -/
def Rws (n : Int) (r c : Nat) (x : D) : Prop := ∃ xs, x = .tup xs ∧ xs.length = r ∧ ∀ e ∈ xs, ∃ cs, e = .tup cs ∧ cs.length = c ∧ ∀ y ∈ cs, isCl n y = true
def F__law_rows : FD := fun ds P => ∃ n r c s : Int, ds = [.st, .int n, .int r, .int c, .int s] ∧ 0 ≤ n ∧ n ≤ 3 ∧ 0 ≤ r ∧ r ≤ 100 ∧ 0 ≤ c ∧ c ≤ 100 ∧ 0 < s ∧ s < 1000 ∧ ∀ x, Rws n r.toNat c.toNat x → P x
theorem len__law_rows : ∀ ds P, F__law_rows ds P → ds.length = 5 := by (intro ds P h; first | exact h | (obtain ⟨_, rfl, _⟩ := h; rfl) | (obtain ⟨_, _, rfl, _⟩ := h; rfl) | (obtain ⟨_, _, _, rfl, _⟩ := h; rfl) | (obtain ⟨_, _, _, _, rfl, _⟩ := h; rfl) | (obtain ⟨_, _, _, _, _, rfl, _⟩ := h; rfl) | (obtain ⟨_, _, _, _, _, _, rfl, _⟩ := h; rfl) | (obtain ⟨_, _, _, _, _, _, _, rfl, _⟩ := h; rfl) | (obtain ⟨_, _, _, _, _, _, _, _, rfl, _⟩ := h; rfl) | (obtain ⟨_, _, _, _, _, _, _, _, _, rfl, _⟩ := h; rfl) | (obtain ⟨_, _, _, _, _, _, _, _, _, _, rfl, _⟩ := h; rfl) | (obtain ⟨_, _, _, _, _, _, _, _, _, _, _, rfl, _⟩ := h; rfl) | (obtain ⟨_, _, _, _, _, _, _, _, _, _, _, _, rfl, _⟩ := h; rfl) | (obtain ⟨_, _, _, _, _, _, _, _, _, _, _, _, _, rfl, _⟩ := h; rfl) | (obtain ⟨rfl, _⟩ := h; rfl))
theorem ok__law_rows (T : Txt K mg) : FnOk Pg T.w0 K mg base CX0 6 T.D__law_rows.f T.D__law_rows.d ["state", "bases", "rows", "columns", "share"] ((spD K F__law_rows)) := by
  have G__law_cell := ok__law_cell (Pg := Pg) (base := base) T
  refine T.D__law_rows.F.ok (k := 5) sc__law_rows (spD_len (len__law_rows)) (fun cdv A outer s H vs Q E hr h => ?_)
  refine ⟨_, (pss_one (ps_ret (pe_callTy (call_tuple_ofK (K := K) rfl) (by rfl) T.n_tuple (by decide +kernel) (pa_cons (pe_lc (own := [("i", 5)]) rfl sc__law_rows.nd (pi_range1 (by rfl) T.n_range (pa_cons (pv 2) pa_nil)) (blkOk_by (N := ["state", "bases", "rows", "columns", "share", "i", "j"]) (sc := defScope s__law_rows) (by decide +kernel)) (fun _ _ _ _ _ => (pg_name (i := 5) sc__law_rows.nd rfl (by first | exact Or.inl rfl | exact Or.inr rfl))) (fun _ _ _ _ _ => pts_nil) (fun _ _ _ _ _ => (pe_callTy (call_tuple_ofK (K := K) rfl) (by rfl) T.n_tuple (by decide +kernel) (pa_cons (pe_lc (own := [("j", 6)]) rfl sc__law_rows.nd (pi_range1 (by rfl) T.n_range (pa_cons (pv 3) pa_nil)) (by exact blkOk_by (N := ["state", "bases", "rows", "columns", "share", "i", "j"]) (by kernel_rfl)) (fun _ _ _ _ _ => (pg_name (i := 6) sc__law_rows.nd rfl (by first | exact Or.inl rfl | exact Or.inr rfl))) (fun _ _ _ _ _ => pts_nil) (fun _ _ _ _ _ => (pe_call G__law_cell (hr.mono (by decide)) (by rfl) T.D__law_cell.g T.D__law_cell.F.kp T.D__law_cell.b .nil pass0 (pa_cons (pv 0) (pa_cons (pv 1) (pa_cons (pv 4) pa_nil)))))) pa_nil)))) pa_nil)))), ?_⟩
  try dsimp only [cxOf, Cx.blk, Cx.nox, Cx.wish]
  (refine body_of h fun W ds P eK f => ?_); subst eK
  obtain ⟨n, r, c, s, rfl, h0, h3, r0, r1, c0, c1, s0, s1, hP⟩ := f
  walk_at "pd"
  refine ev_lcAll (fun y => ∃ cs, y = .tup cs ∧ cs.length = c.toNat ∧ ∀ y ∈ cs, isCl n y = true) (it_rng1 ?_)
  walk_at "pd"
  refine ⟨_, rfl, by omega, by omega, by rw [rngD_length]; omega, fun i d hd => ⟨[5], by simp, gd_name ?_⟩, fun l hl hG => ?_⟩
  · walk_at "pd"
    refine ev_lcAll (fun y => isCl n y = true) (it_rng1 ?_)
    walk_at "pd"
    refine ⟨_, rfl, by omega, by omega, by rw [rngD_length]; omega, fun i d hd => ⟨[6], by simp, gd_name ?_⟩, fun l hl hG => ?_⟩
    · walk_at "pd"
      exact ⟨n, s, rfl, h0, h3, s0, s1, fun c h => h⟩
    · rw [rngD_length] at hl
      walk_at "pd"
      exact ⟨l, rfl, hl, hG⟩
  · rw [rngD_length] at hl
    walk_at "pd"
    exact hP _ ⟨l, rfl, hl, hG⟩
def F__has_grid_length (K : PySem.W.Frag) : FD := fun ds P => ∃ x, ds = [x] ∧ Jd1 K x ∧ P (.bl (hasLen x))
theorem len__has_grid_length (K : PySem.W.Frag) : ∀ ds P, (F__has_grid_length K) ds P → ds.length = 1 := by (intro ds P h; first | exact h | (obtain ⟨_, rfl, _⟩ := h; rfl) | (obtain ⟨_, _, rfl, _⟩ := h; rfl) | (obtain ⟨_, _, _, rfl, _⟩ := h; rfl) | (obtain ⟨_, _, _, _, rfl, _⟩ := h; rfl) | (obtain ⟨_, _, _, _, _, rfl, _⟩ := h; rfl) | (obtain ⟨_, _, _, _, _, _, rfl, _⟩ := h; rfl) | (obtain ⟨_, _, _, _, _, _, _, rfl, _⟩ := h; rfl) | (obtain ⟨_, _, _, _, _, _, _, _, rfl, _⟩ := h; rfl) | (obtain ⟨_, _, _, _, _, _, _, _, _, rfl, _⟩ := h; rfl) | (obtain ⟨_, _, _, _, _, _, _, _, _, _, rfl, _⟩ := h; rfl) | (obtain ⟨_, _, _, _, _, _, _, _, _, _, _, rfl, _⟩ := h; rfl) | (obtain ⟨_, _, _, _, _, _, _, _, _, _, _, _, rfl, _⟩ := h; rfl) | (obtain ⟨_, _, _, _, _, _, _, _, _, _, _, _, _, rfl, _⟩ := h; rfl) | (obtain ⟨rfl, _⟩ := h; rfl))
theorem ok__has_grid_length (T : Txt K mg) : FnOk Pg T.w0 K mg base CX0 1 T.D__has_grid_length.f T.D__has_grid_length.d ["thing"] ((spD K (F__has_grid_length K))) := by
  refine T.D__has_grid_length.F.ok (k := 0) sc__has_grid_length (spD_len (len__has_grid_length K)) (fun cdv A outer s H vs Q E hr h => ?_)
  refine ⟨_, (pss_one (ps_ret (pe_and (pe_callB (call_isiK' (K := K) rfl) (by rfl) T.n_isinstance (by decide +kernel) (pa_cons (pv 0) (pa_cons (pe_bltn (v := .ty "tuple") (u := .type "tuple") (by rfl) T.n_tuple (by decide +kernel) rfl) pa_nil))) (pe_one (pe_chain op_le op_le pe_int (pe_callB (call_lenK (K := K) rfl) (by rfl) T.n_len (by decide +kernel) (pa_cons (pv 0) pa_nil)) (pe_glob (v := .int 10) rfl T.c_MOST_ROWS ⟨_, rfl⟩)))))), ?_⟩
  try dsimp only [cxOf, Cx.blk, Cx.nox, Cx.wish]
  (refine body_of h fun W ds P eK f => ?_); subst eK
  obtain ⟨x, rfl, hx, hP⟩ := f
  walk_at "pd"
  by_cases hT : x.isTup = true
  · obtain ⟨xs, rfl⟩ := tup_of hT
    simp only [hasLen] at hP
    walk_at "pd"
    refine ⟨fun h1 => ?_, fun h1 => ?_⟩
    · have h1' : 1 ≤ xs.length := by have := of_decide_eq_true h1; omega
      rw [decide_eq_true h1', Bool.true_and] at hP
      walk_at "pd"
      have e : decide ((xs.length : Int) ≤ 10) = decide (xs.length ≤ 10) := decide_eq_decide.mpr (by omega)
      rw [e]
      exact hP
    · have h1' : ¬ 1 ≤ xs.length := by have := of_decide_eq_false h1; omega
      rw [decide_eq_false h1', Bool.false_and] at hP
      exact hP
  · have hT' : x.isTup = false := by simpa using hT
    rw [hT']
    walk_at "pd"
    have e : hasLen x = false := by cases x <;> first | rfl | cases hT'
    rw [e] at hP
    exact hP
def F_is_whole (K : PySem.W.Frag) : FD := fun ds P => ∃ x, ds = [x] ∧ Jd1 K x ∧ P (.bl x.isInt)
theorem len_is_whole (K : PySem.W.Frag) : ∀ ds P, (F_is_whole K) ds P → ds.length = 1 := by (intro ds P h; first | exact h | (obtain ⟨_, rfl, _⟩ := h; rfl) | (obtain ⟨_, _, rfl, _⟩ := h; rfl) | (obtain ⟨_, _, _, rfl, _⟩ := h; rfl) | (obtain ⟨_, _, _, _, rfl, _⟩ := h; rfl) | (obtain ⟨_, _, _, _, _, rfl, _⟩ := h; rfl) | (obtain ⟨_, _, _, _, _, _, rfl, _⟩ := h; rfl) | (obtain ⟨_, _, _, _, _, _, _, rfl, _⟩ := h; rfl) | (obtain ⟨_, _, _, _, _, _, _, _, rfl, _⟩ := h; rfl) | (obtain ⟨_, _, _, _, _, _, _, _, _, rfl, _⟩ := h; rfl) | (obtain ⟨_, _, _, _, _, _, _, _, _, _, rfl, _⟩ := h; rfl) | (obtain ⟨_, _, _, _, _, _, _, _, _, _, _, rfl, _⟩ := h; rfl) | (obtain ⟨_, _, _, _, _, _, _, _, _, _, _, _, rfl, _⟩ := h; rfl) | (obtain ⟨_, _, _, _, _, _, _, _, _, _, _, _, _, rfl, _⟩ := h; rfl) | (obtain ⟨rfl, _⟩ := h; rfl))
theorem ok_is_whole (T : Txt K mg) : FnOk Pg T.w0 K mg base CX0 1 T.D_is_whole.f T.D_is_whole.d ["thing"] ((spD K (F_is_whole K))) := by
  refine T.D_is_whole.F.ok (k := 0) sc_is_whole (spD_len (len_is_whole K)) (fun cdv A outer s H vs Q E hr h => ?_)
  refine ⟨_, (pss_one (ps_ret (pe_and (pe_callB (call_isiK' (K := K) rfl) (by rfl) T.n_isinstance (by decide +kernel) (pa_cons (pv 0) (pa_cons (pe_bltn (v := .ty "int") (u := .type "int") (by rfl) T.n_int (by decide +kernel) rfl) pa_nil))) (pe_one (pe_not (pe_callB (call_isiK' (K := K) rfl) (by rfl) T.n_isinstance (by decide +kernel) (pa_cons (pv 0) (pa_cons (pe_bltn (v := .ty "bool") (u := .type "bool") (by rfl) T.n_bool (by decide +kernel) rfl) pa_nil)))))))), ?_⟩
  try dsimp only [cxOf, Cx.blk, Cx.nox, Cx.wish]
  (refine body_of h fun W ds P eK f => ?_); subst eK
  obtain ⟨x, rfl, hx, hP⟩ := f
  walk_at "pd"
  refine ⟨fun hb => ?_, fun hb => ?_⟩
  · walk_at "pd"
    cases x <;> first | exact hP | cases hb
  · cases x <;> first | exact hP | cases hb
def F_is_pair (K : PySem.W.Frag) : FD := fun ds P => ∃ x, ds = [x] ∧ Jd1 K x ∧ P (.bl (isPr x))
theorem len_is_pair (K : PySem.W.Frag) : ∀ ds P, (F_is_pair K) ds P → ds.length = 1 := by (intro ds P h; first | exact h | (obtain ⟨_, rfl, _⟩ := h; rfl) | (obtain ⟨_, _, rfl, _⟩ := h; rfl) | (obtain ⟨_, _, _, rfl, _⟩ := h; rfl) | (obtain ⟨_, _, _, _, rfl, _⟩ := h; rfl) | (obtain ⟨_, _, _, _, _, rfl, _⟩ := h; rfl) | (obtain ⟨_, _, _, _, _, _, rfl, _⟩ := h; rfl) | (obtain ⟨_, _, _, _, _, _, _, rfl, _⟩ := h; rfl) | (obtain ⟨_, _, _, _, _, _, _, _, rfl, _⟩ := h; rfl) | (obtain ⟨_, _, _, _, _, _, _, _, _, rfl, _⟩ := h; rfl) | (obtain ⟨_, _, _, _, _, _, _, _, _, _, rfl, _⟩ := h; rfl) | (obtain ⟨_, _, _, _, _, _, _, _, _, _, _, rfl, _⟩ := h; rfl) | (obtain ⟨_, _, _, _, _, _, _, _, _, _, _, _, rfl, _⟩ := h; rfl) | (obtain ⟨_, _, _, _, _, _, _, _, _, _, _, _, _, rfl, _⟩ := h; rfl) | (obtain ⟨rfl, _⟩ := h; rfl))
theorem ok_is_pair (T : Txt K mg) : FnOk Pg T.w0 K mg base CX0 1 T.D_is_pair.f T.D_is_pair.d ["thing"] ((spD K (F_is_pair K))) := by
  refine T.D_is_pair.F.ok (k := 0) sc_is_pair (spD_len (len_is_pair K)) (fun cdv A outer s H vs Q E hr h => ?_)
  refine ⟨_, (pss_one (ps_ret (pe_and (pe_callB (call_isiK' (K := K) rfl) (by rfl) T.n_isinstance (by decide +kernel) (pa_cons (pv 0) (pa_cons (pe_bltn (v := .ty "tuple") (u := .type "tuple") (by rfl) T.n_tuple (by decide +kernel) rfl) pa_nil))) (pe_one (pe_cmpR (op_eqDK (K := K) rfl (hr_u hr)) (pe_callB (call_lenK (K := K) rfl) (by rfl) T.n_len (by decide +kernel) (pa_cons (pv 0) pa_nil)) pe_int (nomark _)))))), ?_⟩
  try dsimp only [cxOf, Cx.blk, Cx.nox, Cx.wish]
  (refine body_of h fun W ds P eK f => ?_); subst eK
  obtain ⟨x, rfl, hx, hP⟩ := f
  walk_at "pd"
  by_cases hT : x.isTup = true
  · obtain ⟨xs, rfl⟩ := tup_of hT
    walk_at "pd"
    match xs with
    | [] => exact hP
    | [_] => exact hP
    | [_, _] => exact hP
    | _ :: _ :: _ :: r =>
      rw [decide_eq_false (by simp only [List.length_cons]; omega)]
      exact hP
  · have hT' : x.isTup = false := by simpa using hT
    rw [hT']
    walk_at "pd"
    have e : isPr x = false := by cases x <;> first | rfl | cases hT'
    rw [e] at hP
    exact hP
def F_is_fraction (K : PySem.W.Frag) : FD := fun ds P => ∃ x, ds = [x] ∧ Jd K x ∧ P (.bl (isFr x))
theorem len_is_fraction (K : PySem.W.Frag) : ∀ ds P, (F_is_fraction K) ds P → ds.length = 1 := by (intro ds P h; first | exact h | (obtain ⟨_, rfl, _⟩ := h; rfl) | (obtain ⟨_, _, rfl, _⟩ := h; rfl) | (obtain ⟨_, _, _, rfl, _⟩ := h; rfl) | (obtain ⟨_, _, _, _, rfl, _⟩ := h; rfl) | (obtain ⟨_, _, _, _, _, rfl, _⟩ := h; rfl) | (obtain ⟨_, _, _, _, _, _, rfl, _⟩ := h; rfl) | (obtain ⟨_, _, _, _, _, _, _, rfl, _⟩ := h; rfl) | (obtain ⟨_, _, _, _, _, _, _, _, rfl, _⟩ := h; rfl) | (obtain ⟨_, _, _, _, _, _, _, _, _, rfl, _⟩ := h; rfl) | (obtain ⟨_, _, _, _, _, _, _, _, _, _, rfl, _⟩ := h; rfl) | (obtain ⟨_, _, _, _, _, _, _, _, _, _, _, rfl, _⟩ := h; rfl) | (obtain ⟨_, _, _, _, _, _, _, _, _, _, _, _, rfl, _⟩ := h; rfl) | (obtain ⟨_, _, _, _, _, _, _, _, _, _, _, _, _, rfl, _⟩ := h; rfl) | (obtain ⟨rfl, _⟩ := h; rfl))
theorem ok_is_fraction (T : Txt K mg) : FnOk Pg T.w0 K mg base CX0 2 T.D_is_fraction.f T.D_is_fraction.d ["thing"] ((spD K (F_is_fraction K))) := by
  have G_is_pair := ok_is_pair (Pg := Pg) (base := base) T
  have G_is_whole := ok_is_whole (Pg := Pg) (base := base) T
  refine T.D_is_fraction.F.ok (k := 1) sc_is_fraction (spD_len (len_is_fraction K)) (fun cdv A outer s H vs Q E hr h => ?_)
  refine ⟨_, (pss_cons (ps_if (pt_not (pt_val (pe_call G_is_pair (hr.mono (by decide)) (by rfl) T.D_is_pair.g T.D_is_pair.F.kp T.D_is_pair.b .nil pass0 (pa_cons (pv 0) pa_nil))))
      (pss_one (ps_ret pe_bl))
      pss_nil)
    (pss_cons (ps_asg (pv 0) (by exact (pg_tupK (K := K) (n := 2) rfl rfl (pgs_cons (pg_name (i := 1) sc_is_fraction.nd rfl (by first | exact Or.inl rfl | exact Or.inr rfl)) (pgs_cons (pg_name (i := 2) sc_is_fraction.nd rfl (by first | exact Or.inl rfl | exact Or.inr rfl)) pgs_nil)))))
    (pss_one (ps_ret (pe_and (pe_call G_is_whole (hr.mono (by decide)) (by rfl) T.D_is_whole.g T.D_is_whole.F.kp T.D_is_whole.b .nil pass0 (pa_cons (pv 1) pa_nil)) (pe_and (pe_call G_is_whole (hr.mono (by decide)) (by rfl) T.D_is_whole.g T.D_is_whole.F.kp T.D_is_whole.b .nil pass0 (pa_cons (pv 2) pa_nil)) (pe_and (pe_cmpR op_ge (pv 2) pe_int (nomark _)) (pe_one (pe_cmpR (op_eqDK (K := K) rfl (hr_u hr)) (pe_callBfun cr_gcd (by rfl) T.v_gcd (pa_cons (pv 1) (pa_cons (pv 2) pa_nil))) pe_int (nomark _)))))))))), ?_⟩
  try dsimp only [cxOf, Cx.blk, Cx.nox, Cx.wish]
  (refine body_of h fun W ds P eK f => ?_); subst eK
  obtain ⟨x, rfl, hx, hP⟩ := f
  have ht := jd_ty hx
  walk_at "pd"
  refine ⟨x, rfl, ht, ?_⟩
  walk_at "pd"
  by_cases hT : isPr x = true
  · obtain ⟨a, b, rfl⟩ : ∃ a b, x = .tup [a, b] := by
      unfold isPr at hT
      split at hT
      · exact ⟨_, _, rfl⟩
      · cases hT
    refine bf rfl ?_
    simp only [Jd, JdA] at hx
    have ha := jd_ty hx.1
    have hb := jd_ty hx.2.1
    walk_at "pd"
    refine sd_asgG (ev_var rfl (gd_tup2 (gd_name (gd_name ?_))))
    walk_at "pd"
    refine ⟨_, rfl, ha, ?_⟩
    walk_at "pd"
    refine ⟨fun h1 => ?_, fun h1 => ?_⟩
    · obtain ⟨i, rfl⟩ := isInt_of h1
      walk_at "pd"
      refine ⟨_, rfl, hb, ?_⟩
      walk_at "pd"
      refine ⟨fun h2 => ?_, fun h2 => ?_⟩
      · obtain ⟨j, rfl⟩ := isInt_of h2
        walk_at "pd"
        refine ⟨fun h3 => ?_, fun h3 => ?_⟩
        · walk_at "pd"
          rw [isFr_ints (of_decide_eq_true h3)] at hP
          exact hP
        · rw [isFr_low (of_decide_eq_false h3)] at hP
          exact hP
      · simp only [isFr, h2, Bool.false_and, Bool.and_false] at hP
        exact hP
    · simp only [isFr, h1, Bool.false_and, Bool.and_false] at hP
      exact hP
  · have hT' : isPr x = false := by simpa using hT
    refine bt (by rw [hT']; rfl) ?_
    walk_at "pd"
    have e : isFr x = false := by
      unfold isPr at hT'
      unfold isFr
      split
      · simp at hT'
      · rfl
    rw [e] at hP
    exact hP
def F_is_any_unit (K : PySem.W.Frag) : FD := fun ds P => ∃ x, ds = [x] ∧ Jd K x ∧ P (.bl (isAny x))
theorem len_is_any_unit (K : PySem.W.Frag) : ∀ ds P, (F_is_any_unit K) ds P → ds.length = 1 := by (intro ds P h; first | exact h | (obtain ⟨_, rfl, _⟩ := h; rfl) | (obtain ⟨_, _, rfl, _⟩ := h; rfl) | (obtain ⟨_, _, _, rfl, _⟩ := h; rfl) | (obtain ⟨_, _, _, _, rfl, _⟩ := h; rfl) | (obtain ⟨_, _, _, _, _, rfl, _⟩ := h; rfl) | (obtain ⟨_, _, _, _, _, _, rfl, _⟩ := h; rfl) | (obtain ⟨_, _, _, _, _, _, _, rfl, _⟩ := h; rfl) | (obtain ⟨_, _, _, _, _, _, _, _, rfl, _⟩ := h; rfl) | (obtain ⟨_, _, _, _, _, _, _, _, _, rfl, _⟩ := h; rfl) | (obtain ⟨_, _, _, _, _, _, _, _, _, _, rfl, _⟩ := h; rfl) | (obtain ⟨_, _, _, _, _, _, _, _, _, _, _, rfl, _⟩ := h; rfl) | (obtain ⟨_, _, _, _, _, _, _, _, _, _, _, _, rfl, _⟩ := h; rfl) | (obtain ⟨_, _, _, _, _, _, _, _, _, _, _, _, _, rfl, _⟩ := h; rfl) | (obtain ⟨rfl, _⟩ := h; rfl))
theorem ok_is_any_unit (T : Txt K mg) : FnOk Pg T.w0 K mg base CX0 3 T.D_is_any_unit.f T.D_is_any_unit.d ["thing"] ((spD K (F_is_any_unit K))) := by
  have G_is_fraction := ok_is_fraction (Pg := Pg) (base := base) T
  refine T.D_is_any_unit.F.ok (k := 2) sc_is_any_unit (spD_len (len_is_any_unit K)) (fun cdv A outer s H vs Q E hr h => ?_)
  refine ⟨_, (pss_cons (ps_if (PW.pt (pw_or (pt_not (pt_val (pe_callB (call_isiK' (K := K) rfl) (by rfl) T.n_isinstance (by decide +kernel) (pa_cons (pv 0) (pa_cons (pe_bltn (v := .ty "tuple") (u := .type "tuple") (by rfl) T.n_tuple (by decide +kernel) rfl) pa_nil))))) (pw_or1 (pt_not (pt_chain op_le op_le pe_int (pe_callB (call_lenK (K := K) rfl) (by rfl) T.n_len (by decide +kernel) (pa_cons (pv 0) pa_nil)) (pe_glob (v := .int 3) rfl T.c_MOST_BASES ⟨_, rfl⟩))))))
      (pss_one (ps_ret pe_bl))
      pss_nil)
    (pss_one (ps_ret (pe_callB (cr_allK (K := K) rfl rfl) (by rfl) T.n_all (by decide +kernel) (pa_cons (pe_lc (own := [("exponent", 1)]) rfl sc_is_any_unit.nd (pi_seqK (K := K) rfl (pv 0)) (blkOk_by (N := ["thing", "exponent"]) (sc := defScope s_is_any_unit) (by decide +kernel)) (fun _ _ _ _ _ => (pg_name (i := 1) sc_is_any_unit.nd rfl (by first | exact Or.inl rfl | exact Or.inr rfl))) (fun _ _ _ _ _ => pts_nil) (fun _ _ _ _ _ => (pe_call G_is_fraction (hr.mono (by decide)) (by rfl) T.D_is_fraction.g T.D_is_fraction.F.kp T.D_is_fraction.b .nil pass0 (pa_cons (pv 1) pa_nil)))) pa_nil))))), ?_⟩
  try dsimp only [cxOf, Cx.blk, Cx.nox, Cx.wish]
  (refine body_of h fun W ds P eK f => ?_); subst eK
  obtain ⟨x, rfl, hx, hP⟩ := f
  have ht := jd_ty hx
  walk_at "pd"
  by_cases hT : x.isTup = true
  · obtain ⟨xs, rfl⟩ : ∃ xs, x = .tup xs := by
      cases x <;> first | exact ⟨_, rfl⟩ | cases hT
    simp only [isAny] at hP
    walk_at "pd"
    refine ⟨fun h1 => ?_, fun h1 => ?_⟩
    · have h1' : 1 ≤ xs.length := by have := of_decide_eq_true h1; omega
      rw [decide_eq_true h1'] at hP
      walk_at "pd"
      refine ⟨fun h2 => ?_, fun h2 => ?_⟩
      · have h2' : ¬ xs.length ≤ 3 := by simp at h2; omega
        rw [decide_eq_false h2'] at hP
        walk_at "pd"
        exact hP
      · have h2' : xs.length ≤ 3 := by simp at h2; omega
        rw [decide_eq_true h2'] at hP
        simp only [Jd] at hx
        walk_at "pd"
        refine ev_lcL (it_seqT (ev_var rfl ⟨xs, rfl, by omega, xs.map fun x => .bl (isFr x), by rw [List.length_map], fun i d y hd hy => ?_, ?_⟩))
        · rw [List.getElem?_map, hd] at hy
          cases hy
          refine ⟨[1], by simp, gd_name ?_⟩
          walk_at "pd"
          exact ⟨d, rfl, jd_mem hx (List.mem_of_getElem? hd), rfl⟩
        · walk_at "pd"
          have e : (xs.map fun x => D.bl (isFr x)) = (xs.map isFr).map D.bl := by rw [List.map_map]; rfl
          rw [e]
          refine rc_all ?_
          rw [List.all_map]
          exact hP
    · have h1' : ¬ 1 ≤ xs.length := by have := of_decide_eq_false h1; omega
      rw [decide_eq_false h1'] at hP
      walk_at "pd"
      exact hP
  · have hT' : x.isTup = false := by simpa using hT
    rw [hT']
    walk_at "pd"
    have e : isAny x = false := by cases x <;> first | rfl | cases hT'
    rw [e] at hP
    exact hP
def F_is_unit (K : PySem.W.Frag) : FD := fun ds P => ∃ (n : Int) (x : D), ds = [.int n, x] ∧ Jd K x ∧ P (.bl (isAny x && decide (x.len = n)))
theorem len_is_unit (K : PySem.W.Frag) : ∀ ds P, (F_is_unit K) ds P → ds.length = 2 := by (intro ds P h; first | exact h | (obtain ⟨_, rfl, _⟩ := h; rfl) | (obtain ⟨_, _, rfl, _⟩ := h; rfl) | (obtain ⟨_, _, _, rfl, _⟩ := h; rfl) | (obtain ⟨_, _, _, _, rfl, _⟩ := h; rfl) | (obtain ⟨_, _, _, _, _, rfl, _⟩ := h; rfl) | (obtain ⟨_, _, _, _, _, _, rfl, _⟩ := h; rfl) | (obtain ⟨_, _, _, _, _, _, _, rfl, _⟩ := h; rfl) | (obtain ⟨_, _, _, _, _, _, _, _, rfl, _⟩ := h; rfl) | (obtain ⟨_, _, _, _, _, _, _, _, _, rfl, _⟩ := h; rfl) | (obtain ⟨_, _, _, _, _, _, _, _, _, _, rfl, _⟩ := h; rfl) | (obtain ⟨_, _, _, _, _, _, _, _, _, _, _, rfl, _⟩ := h; rfl) | (obtain ⟨_, _, _, _, _, _, _, _, _, _, _, _, rfl, _⟩ := h; rfl) | (obtain ⟨_, _, _, _, _, _, _, _, _, _, _, _, _, rfl, _⟩ := h; rfl) | (obtain ⟨rfl, _⟩ := h; rfl))
theorem ok_is_unit (T : Txt K mg) : FnOk Pg T.w0 K mg base CX0 4 T.D_is_unit.f T.D_is_unit.d ["bases", "thing"] ((spD K (F_is_unit K))) := by
  have G_is_any_unit := ok_is_any_unit (Pg := Pg) (base := base) T
  refine T.D_is_unit.F.ok (k := 3) sc_is_unit (spD_len (len_is_unit K)) (fun cdv A outer s H vs Q E hr h => ?_)
  refine ⟨_, (pss_one (ps_ret (pe_and (pe_call G_is_any_unit (hr.mono (by decide)) (by rfl) T.D_is_any_unit.g T.D_is_any_unit.F.kp T.D_is_any_unit.b .nil pass0 (pa_cons (pv 1) pa_nil)) (pe_one (pe_cmpR (op_eqDK (K := K) rfl (hr_u hr)) (pe_callB (call_lenK (K := K) rfl) (by rfl) T.n_len (by decide +kernel) (pa_cons (pv 1) pa_nil)) (pv 0) (nomark _)))))), ?_⟩
  try dsimp only [cxOf, Cx.blk, Cx.nox, Cx.wish]
  (refine body_of h fun W ds P eK f => ?_); subst eK
  obtain ⟨n, x, rfl, hx, hP⟩ := f
  walk_at "pd"
  refine ⟨x, rfl, hx, ?_⟩
  walk_at "pd"
  refine ⟨fun h1 => ?_, fun h1 => ?_⟩
  · obtain ⟨xs, rfl⟩ : ∃ xs, x = .tup xs := by
      cases x <;> first | exact ⟨_, rfl⟩ | cases h1
    rw [h1, Bool.true_and] at hP
    walk_at "pd"
    exact hP
  · rw [h1, Bool.false_and] at hP
    exact hP
def F_is_cell (K : PySem.W.Frag) : FD := fun ds P => ∃ (n : Int) (x : D), ds = [.int n, x] ∧ 1 ≤ n ∧ n ≤ 3 ∧ Jd K x ∧ P (.bl (isCl n x))
theorem len_is_cell (K : PySem.W.Frag) : ∀ ds P, (F_is_cell K) ds P → ds.length = 2 := by (intro ds P h; first | exact h | (obtain ⟨_, rfl, _⟩ := h; rfl) | (obtain ⟨_, _, rfl, _⟩ := h; rfl) | (obtain ⟨_, _, _, rfl, _⟩ := h; rfl) | (obtain ⟨_, _, _, _, rfl, _⟩ := h; rfl) | (obtain ⟨_, _, _, _, _, rfl, _⟩ := h; rfl) | (obtain ⟨_, _, _, _, _, _, rfl, _⟩ := h; rfl) | (obtain ⟨_, _, _, _, _, _, _, rfl, _⟩ := h; rfl) | (obtain ⟨_, _, _, _, _, _, _, _, rfl, _⟩ := h; rfl) | (obtain ⟨_, _, _, _, _, _, _, _, _, rfl, _⟩ := h; rfl) | (obtain ⟨_, _, _, _, _, _, _, _, _, _, rfl, _⟩ := h; rfl) | (obtain ⟨_, _, _, _, _, _, _, _, _, _, _, rfl, _⟩ := h; rfl) | (obtain ⟨_, _, _, _, _, _, _, _, _, _, _, _, rfl, _⟩ := h; rfl) | (obtain ⟨_, _, _, _, _, _, _, _, _, _, _, _, _, rfl, _⟩ := h; rfl) | (obtain ⟨rfl, _⟩ := h; rfl))
theorem ok_is_cell (T : Txt K mg) : FnOk Pg T.w0 K mg base CX0 5 T.D_is_cell.f T.D_is_cell.d ["bases", "thing"] ((spD K (F_is_cell K))) := by
  have G_is_unit := ok_is_unit (Pg := Pg) (base := base) T
  refine T.D_is_cell.F.ok (k := 4) sc_is_cell (spD_len (len_is_cell K)) (fun cdv A outer s H vs Q E hr h => ?_)
  refine ⟨_, (pss_cons (ps_if (pt_cmpR op_isN (pv 1) pe_non (nomark _))
      (pss_one (ps_ret pe_bl))
      pss_nil)
    (pss_cons (ps_if (pt_not (pt_val (pe_call G_is_unit (hr.mono (by decide)) (by rfl) T.D_is_unit.g T.D_is_unit.F.kp T.D_is_unit.b .nil pass0 (pa_cons (pv 0) (pa_cons (pv 1) pa_nil)))))
      (pss_one (ps_ret pe_bl))
      pss_nil)
    (pss_one (ps_ret (pe_callB (cr_allK (K := K) rfl rfl) (by rfl) T.n_all (by decide +kernel) (pa_cons (pe_lc (own := [("top", 2), ("below", 3)]) rfl sc_is_cell.nd (pi_seqK (K := K) rfl (pv 1)) (blkOk_by (N := ["bases", "thing", "top", "below"]) (sc := defScope s_is_cell) (by decide +kernel)) (fun _ _ _ _ _ => (by exact (pg_tupK (K := K) (n := 2) rfl rfl (pgs_cons (pg_name (i := 2) sc_is_cell.nd rfl (by first | exact Or.inl rfl | exact Or.inr rfl)) (pgs_cons (pg_name (i := 3) sc_is_cell.nd rfl (by first | exact Or.inl rfl | exact Or.inr rfl)) pgs_nil))))) (fun _ _ _ _ _ => pts_nil) (fun _ _ _ _ _ => (pe_and (pe_chain op_le op_le (pe_un un_neg (pe_glob (v := .int 6) rfl T.c_MOST_TOP ⟨_, rfl⟩)) (pv 2) (pe_glob (v := .int 6) rfl T.c_MOST_TOP ⟨_, rfl⟩)) (pe_one (pe_cmpR op_le (pv 3) (pe_glob (v := .int 4) rfl T.c_MOST_BOTTOM ⟨_, rfl⟩) (nomark _)))))) pa_nil)))))), ?_⟩
  try dsimp only [cxOf, Cx.blk, Cx.nox, Cx.wish]
  (refine body_of h fun W ds P eK f => ?_); subst eK
  obtain ⟨n, x, rfl, h1, h3, hx, hP⟩ := f
  walk_at "pd"
  refine ⟨fun hn => ?_, fun hn => ?_⟩
  · simp only [isCl, hn, Bool.true_or] at hP
    walk_at "pd"
    exact hP
  · simp only [isCl, hn, Bool.false_or] at hP
    walk_at "pd"
    refine ⟨n, x, rfl, hx, ?_⟩
    rw [is_un h1 h3]
    walk_at "pd"
    by_cases hu : isUn n x = true
    · obtain ⟨u, rfl, hl, hf⟩ := isUn_of hu
      rw [hu, Bool.true_and] at hP
      refine bf (by rw [hu]; rfl) ?_
      walk_at "pd"
      refine ev_lcL (it_seqT (ev_var rfl ⟨u.map fr, rfl, by rw [List.length_map]; omega, (u.map fr).map fun e => .bl (exOk e), by rw [List.length_map], fun i d y hd hy => ?_, ?_⟩))
      · rw [List.getElem?_map, hd] at hy
        cases hy
        obtain ⟨p, _, rfl⟩ := List.mem_map.mp (List.mem_of_getElem? hd)
        refine ⟨[2] ++ [3], by simp, gd_tup2 (gd_name (gd_name ?_))⟩
        walk_at "pd"
        refine ⟨fun q1 => ?_, fun q1 => ?_⟩
        · walk_at "pd"
          refine ⟨fun q2 => ?_, fun q2 => ?_⟩
          · walk_at "pd"
            show D.bl _ = D.bl (decide (-6 ≤ p.1) && decide (p.1 ≤ 6) && decide (p.2 ≤ 4))
            rw [q1, q2]
            rfl
          · show D.bl false = D.bl (decide (-6 ≤ p.1) && decide (p.1 ≤ 6) && decide (p.2 ≤ 4))
            rw [q1, q2]
            rfl
        · walk_at "pd"
          show _ = D.bl (decide (-6 ≤ p.1) && decide (p.1 ≤ 6) && decide (p.2 ≤ 4))
          rw [q1]
          rfl
      · walk_at "pd"
        have e : ((u.map fr).map fun e => D.bl (exOk e)) = ((u.map fr).map exOk).map D.bl := by simp only [List.map_map, Function.comp_def]
        rw [e]
        refine rc_all ?_
        rw [List.all_map]
        exact hP
    · have hu' : isUn n x = false := by simpa using hu
      rw [hu', Bool.false_and] at hP
      refine bt (by rw [hu']; rfl) ?_
      walk_at "pd"
      exact hP
def F__wrong_part (K : PySem.W.Frag) : FD := fun ds P => ∃ b x, ds = [b, x] ∧ Jd K b ∧ Jd K x ∧ P (wrongD b x)
theorem len__wrong_part (K : PySem.W.Frag) : ∀ ds P, (F__wrong_part K) ds P → ds.length = 2 := by (intro ds P h; first | exact h | (obtain ⟨_, rfl, _⟩ := h; rfl) | (obtain ⟨_, _, rfl, _⟩ := h; rfl) | (obtain ⟨_, _, _, rfl, _⟩ := h; rfl) | (obtain ⟨_, _, _, _, rfl, _⟩ := h; rfl) | (obtain ⟨_, _, _, _, _, rfl, _⟩ := h; rfl) | (obtain ⟨_, _, _, _, _, _, rfl, _⟩ := h; rfl) | (obtain ⟨_, _, _, _, _, _, _, rfl, _⟩ := h; rfl) | (obtain ⟨_, _, _, _, _, _, _, _, rfl, _⟩ := h; rfl) | (obtain ⟨_, _, _, _, _, _, _, _, _, rfl, _⟩ := h; rfl) | (obtain ⟨_, _, _, _, _, _, _, _, _, _, rfl, _⟩ := h; rfl) | (obtain ⟨_, _, _, _, _, _, _, _, _, _, _, rfl, _⟩ := h; rfl) | (obtain ⟨_, _, _, _, _, _, _, _, _, _, _, _, rfl, _⟩ := h; rfl) | (obtain ⟨_, _, _, _, _, _, _, _, _, _, _, _, _, rfl, _⟩ := h; rfl) | (obtain ⟨rfl, _⟩ := h; rfl))
theorem ok__wrong_part (T : Txt K mg) : FnOk Pg T.w0 K mg base CX0 6 T.D__wrong_part.f T.D__wrong_part.d ["bases", "rows"] ((spD K (F__wrong_part K))) := by
  have G__has_grid_length := ok__has_grid_length (Pg := Pg) (base := base) T
  have G_is_cell := ok_is_cell (Pg := Pg) (base := base) T
  have G_is_whole := ok_is_whole (Pg := Pg) (base := base) T
  refine T.D__wrong_part.F.ok (k := 5) sc__wrong_part (spD_len (len__wrong_part K)) (fun cdv A outer s H vs Q E hr h => ?_)
  refine ⟨_, (pss_cons (ps_if (PW.pt (pw_or (pt_not (pt_val (pe_call G_is_whole (hr.mono (by decide)) (by rfl) T.D_is_whole.g T.D_is_whole.F.kp T.D_is_whole.b .nil pass0 (pa_cons (pv 0) pa_nil)))) (pw_or1 (pt_not (pt_chain op_le op_le pe_int (pv 0) (pe_glob (v := .int 3) rfl T.c_MOST_BASES ⟨_, rfl⟩))))))
      (pss_one (ps_ret pe_str))
      pss_nil)
    (pss_cons (ps_if (pt_not (pt_val (pe_call G__has_grid_length (hr.mono (by decide)) (by rfl) T.D__has_grid_length.g T.D__has_grid_length.F.kp T.D__has_grid_length.b .nil pass0 (pa_cons (pv 1) pa_nil))))
      (pss_one (ps_ret pe_str))
      pss_nil)
    (pss_cons (ps_for PassesOwn.never rfl (pi_enumT (K := K) rfl (by rfl) T.n_enumerate (pa_cons (pv 1) pa_nil)) (by exact (pg_tupK (K := K) (n := 2) rfl rfl (pgs_cons (pg_name (i := 2) sc__wrong_part.nd rfl (by first | exact Or.inl rfl | exact Or.inr rfl)) (pgs_cons (pg_name (i := 3) sc__wrong_part.nd rfl (by first | exact Or.inl rfl | exact Or.inr rfl)) pgs_nil))))
      (pss_one (ps_if (PW.pt (pw_or (pt_not (pt_val (pe_call G__has_grid_length (hr.mono (by decide)) (by rfl) T.D__has_grid_length.g T.D__has_grid_length.F.kp T.D__has_grid_length.b .nil pass0 (pa_cons (pv 3) pa_nil)))) (pw_or1 (pt_cmpR (op_neDK (K := K) rfl (hr_u hr)) (pe_callB (call_lenK (K := K) rfl) (by rfl) T.n_len (by decide +kernel) (pa_cons (pv 3) pa_nil)) (pe_callB (call_lenK (K := K) rfl) (by rfl) T.n_len (by decide +kernel) (pa_cons (pe_ix (ix_seqK (K := K) rfl) (pv 1) pe_int (fun _ _ => rfl)) pa_nil)) (nomark _)))))
      (pss_one (ps_ret (pe_tup (pa_cons (pv 2) pa_nil))))
      pss_nil)))
    (pss_cons (ps_for PassesOwn.never rfl (pi_enumT (K := K) rfl (by rfl) T.n_enumerate (pa_cons (pv 1) pa_nil)) (by exact (pg_tupK (K := K) (n := 2) rfl rfl (pgs_cons (pg_name (i := 2) sc__wrong_part.nd rfl (by first | exact Or.inl rfl | exact Or.inr rfl)) (pgs_cons (pg_name (i := 3) sc__wrong_part.nd rfl (by first | exact Or.inl rfl | exact Or.inr rfl)) pgs_nil))))
      (pss_one (ps_for PassesOwn.never rfl (pi_enumT (K := K) rfl (by rfl) T.n_enumerate (pa_cons (pv 3) pa_nil)) (by exact (pg_tupK (K := K) (n := 2) rfl rfl (pgs_cons (pg_name (i := 4) sc__wrong_part.nd rfl (by first | exact Or.inl rfl | exact Or.inr rfl)) (pgs_cons (pg_name (i := 5) sc__wrong_part.nd rfl (by first | exact Or.inl rfl | exact Or.inr rfl)) pgs_nil))))
      (pss_one (ps_if (pt_not (pt_val (pe_call G_is_cell (hr.mono (by decide)) (by rfl) T.D_is_cell.g T.D_is_cell.F.kp T.D_is_cell.b .nil pass0 (pa_cons (pv 0) (pa_cons (pv 5) pa_nil)))))
      (pss_one (ps_ret (pe_tup (pa_cons (pv 2) (pa_cons (pv 4) pa_nil)))))
      pss_nil)))))
    (pss_one (ps_ret pe_non)))))), ?_⟩
  try dsimp only [cxOf, Cx.blk, Cx.nox, Cx.wish]
  (refine body_of h fun W ds P eK f => ?_); subst eK
  obtain ⟨b, x, rfl, hb, hx, hP⟩ := f
  have tb := jd_ty hb
  have tx := jd_ty hx
  walk_at "pd"
  refine ⟨b, rfl, tb, ?_⟩
  walk_at "pd"
  refine ⟨fun h1 => ?_, fun h1 => ?_⟩
  · have h1' : b.isInt = true := by simpa using h1
    obtain ⟨n, rfl⟩ := isInt_of h1'
    walk_at "pd"
    refine ⟨fun q1 => ?_, fun q1 => ?_⟩
    · walk_at "pd"
      refine ⟨fun q3 => ?_, fun q3 => ?_⟩
      · have q3' : decide (n ≤ 3) = false := by simpa using q3
        have e : wrongD (.int n) x = .str "bases" := wrongD_out fun z => (of_decide_eq_false q3') z.2.2
        rw [e] at hP
        walk_at "pd"
        exact hP
      · have q3' : decide (n ≤ 3) = true := by simpa using q3
        have n1 := of_decide_eq_true q1
        have n3 := of_decide_eq_true q3'
        rw [wrongD_in n1 n3] at hP
        walk_at "pd"
        refine ⟨x, rfl, tx, ?_⟩
        walk_at "pd"
        refine ⟨fun hl => ?_, fun hl => ?_⟩
        · have hl' : hasLen x = false := by simpa using hl
          rw [hl', if_neg Bool.false_ne_true] at hP
          walk_at "pd"
          exact hP
        · have hl' : hasLen x = true := by simpa using hl
          rw [hl', if_pos rfl] at hP
          obtain ⟨xs, rfl, l1, l10⟩ := hasLen_of hl'
          simp only [items] at hP
          simp only [Jd] at hx
          walk_at "pd"
          refine sd_for (it_enumT ?_)
          walk_at "pd"
          refine ⟨_, rfl, fun i δ => (∃ a b c d, δ = [some (.int n), some (.tup xs), a, b, c, d]) ∧ ∀ j, j < i → ∀ e, xs[j]? = some e → badRow xs e = false, ⟨⟨none, none, none, none, rfl⟩, fun j hj => absurd hj (Nat.not_lt_zero j)⟩, fun i d δ hd hI => ?_, fun δ hI => ?_⟩
          · obtain ⟨⟨a, b, c, d', rfl⟩, hI⟩ := hI
            obtain ⟨e, he, rfl⟩ := enumD_get hd
            have je := jd_mem hx (List.mem_of_getElem? he)
            refine ⟨_, gd_tup2 (gd_name (gd_name ?_))⟩
            walk_at "pd"
            refine ⟨e, rfl, jd_ty je, ?_⟩
            walk_at "pd"
            have bad : badRow xs e = true → P (.tup [.int (i : Int)]) := fun hb => by
              unfold wrongR at hP
              rw [find_some hI he hb] at hP
              exact hP
            by_cases hle : hasLen e = true
            · obtain ⟨cs, rfl, c1, c10⟩ := hasLen_of hle
              obtain ⟨r0, h0, hr0, eh⟩ := bad_row0 hI he hle
              obtain ⟨ds, rfl, d1, d10⟩ := hasLen_of hr0
              refine bof (by rw [hle]; rfl) ?_
              walk_at "pd"
              refine rd_ixT (j := 0) rfl h0 ?_
              walk_at "pd"
              refine ⟨fun q => ?_, fun q => ?_⟩
              · walk_at "pd"
                refine bad ?_
                rw [badRow_tup hle eh]
                exact q
              · walk_at "pd"
                refine ⟨⟨_, _, _, _, rfl⟩, fun j hj e2 he2 => ?_⟩
                by_cases hji : j = i
                · subst hji
                  rw [he] at he2
                  cases he2
                  rw [badRow_tup hle eh]
                  exact q
                · exact hI j (by omega) e2 he2
            · have hle' : hasLen e = false := by simpa using hle
              refine bot (by rw [hle']; rfl) ?_
              walk_at "pd"
              refine bad ?_
              unfold badRow
              rw [hle']
              rfl
          · obtain ⟨⟨a, b, c, d', rfl⟩, hI⟩ := hI
            rw [enumD_length] at hI
            have hn := find_none (p := badRow xs) (xs := xs) fun j e he => hI j (List.getElem?_eq_some_iff.mp he).1 e he
            unfold wrongR at hP
            rw [hn] at hP
            simp only at hP
            walk_at "pd"
            refine sd_for (it_enumT ?_)
            walk_at "pd"
            refine ⟨_, rfl, fun i δ => (∃ a b c d, δ = [some (.int n), some (.tup xs), a, b, c, d]) ∧ ∀ j, j < i → ∀ e, xs[j]? = some e → badIn n e = false, ⟨⟨_, _, _, _, rfl⟩, fun j hj => absurd hj (Nat.not_lt_zero j)⟩, fun i d δ hd hJ => ?_, fun δ hJ => ?_⟩
            · obtain ⟨⟨a, b, c, d', rfl⟩, hJ⟩ := hJ
              obtain ⟨e, he, rfl⟩ := enumD_get hd
              have je := jd_mem hx (List.mem_of_getElem? he)
              have ok := hI i (List.getElem?_eq_some_iff.mp he).1 e he
              unfold badRow at ok
              simp only [Bool.or_eq_false_iff, Bool.not_eq_false'] at ok
              obtain ⟨cs, rfl, c1, c10⟩ := hasLen_of ok.1
              simp only [Jd] at je
              refine ⟨_, gd_tup2 (gd_name (gd_name ?_))⟩
              refine sd_for (it_enumT ?_)
              walk_at "pd"
              refine ⟨_, rfl, fun k δ => (∃ c d, δ = [some (.int n), some (.tup xs), some (.int (i : Int)), some (.tup cs), c, d]) ∧ ∀ j, j < k → ∀ e, cs[j]? = some e → isCl n e = true, ⟨⟨_, _, rfl⟩, fun j hj => absurd hj (Nat.not_lt_zero j)⟩, fun k d δ hd hK => ?_, fun δ hK => ?_⟩
              · obtain ⟨⟨c, d', rfl⟩, hK⟩ := hK
                obtain ⟨y, hy, rfl⟩ := enumD_get hd
                have jy := jd_mem je (List.mem_of_getElem? hy)
                refine ⟨_, gd_tup2 (gd_name (gd_name ?_))⟩
                walk_at "pd"
                refine ⟨n, y, rfl, n1, n3, jy, ?_⟩
                walk_at "pd"
                refine ⟨fun q => ?_, fun q => ?_⟩
                · have q' : isCl n y = false := by simpa using q
                  walk_at "pd"
                  have b1 : badIn n (.tup cs) = true := by
                    unfold badIn
                    rw [List.any_eq_true]
                    exact ⟨y, List.mem_of_getElem? hy, by rw [q']; rfl⟩
                  unfold wrongC at hP
                  rw [find_some hJ he b1] at hP
                  simp only [List.getD_eq_getElem?_getD, he, Option.getD_some, items] at hP
                  rw [find_some (p := fun c => !isCl n c) (i := k) (d := y) (fun j hj e2 he2 => by rw [hK j hj e2 he2]; rfl) hy (by rw [q']; rfl)] at hP
                  exact hP
                · have q' : isCl n y = true := by simpa using q
                  walk_at "pd"
                  refine ⟨⟨_, _, rfl⟩, fun j hj e2 he2 => ?_⟩
                  by_cases hji : j = k
                  · subst hji
                    rw [hy] at he2
                    cases he2
                    exact q'
                  · exact hK j (by omega) e2 he2
              · obtain ⟨⟨c, d', rfl⟩, hK⟩ := hK
                rw [enumD_length] at hK
                refine ⟨⟨_, _, _, _, rfl⟩, fun j hj e2 he2 => ?_⟩
                by_cases hji : j = i
                · subst hji
                  rw [he] at he2
                  cases he2
                  unfold badIn
                  rw [List.any_eq_false]
                  intro y hy
                  obtain ⟨k, hk, rfl⟩ := List.mem_iff_getElem.mp hy
                  rw [hK k hk _ (List.getElem?_eq_getElem hk)]
                  exact Bool.false_ne_true
                · exact hJ j (by omega) e2 he2
            · obtain ⟨⟨a, b, c, d', rfl⟩, hJ⟩ := hJ
              rw [enumD_length] at hJ
              have hm := find_none (p := badIn n) (xs := xs) fun j e he => hJ j (List.getElem?_eq_some_iff.mp he).1 e he
              unfold wrongC at hP
              rw [hm] at hP
              walk_at "pd"
              exact hP
    · have e : wrongD (.int n) x = .str "bases" := wrongD_out fun z => (of_decide_eq_false q1) z.2.1
      rw [e] at hP
      walk_at "pd"
      exact hP
  · have h1' : b.isInt = false := by simpa using h1
    have e : wrongD b x = .str "bases" := wrongD_out fun z => by rw [h1'] at z; cases z.1
    rw [e] at hP
    walk_at "pd"
    exact hP
theorem ok_BadGrid___init__ (T : Txt K mg) : FnOk Pg T.w0 K mg base CX0 1 T.D_BadGrid___init__.f T.D_BadGrid___init__.d ["self", "part"] (spI1 K "part") := by
  refine T.D_BadGrid___init__.F.ok (k := 0) sc_BadGrid___init__ (fun vs H Q E h => by obtain ⟨_, _, _, rfl, _⟩ := h; rfl) (fun cdv A outer s H vs Q E hr h => ?_)
  refine ⟨_, (pss_one (ps_ost (pv 0) (pv 1))), ?_⟩
  try dsimp only [cxOf, Cx.blk, Cx.nox, Cx.wish]
  obtain ⟨a, C, y, rfl, hC, hf, e, q⟩ := h
  refine ⟨y, rfl, .ref a, rfl, a, C, rfl, hC, hf, .inl ⟨e, fun dx h1 h2 => ?_⟩⟩
  exact q dx h1 h2
theorem isNon_of {x : D} (h : x.isNon = true) : x = .non := by cases x <;> first | rfl | cases h
def F_Grid___init__ {K : PySem.W.Frag} {mg : Str → Option Value} (T : Txt K mg) : FI := fun C ds P X => ∃ b x, C = T.k_Grid.C ∧ ds = [b, x] ∧ Jd K b ∧ Jd K x ∧ (wrongD b x = .non → P ["bases", "rows"] [b, x]) ∧ (wrongD b x ≠ .non → X (T.x_BadGrid.C, [("part", wrongD b x)]))
theorem len_Grid___init__ {K : PySem.W.Frag} {mg : Str → Option Value} (T : Txt K mg) : ∀ C ds P X, (F_Grid___init__ T) C ds P X → ds.length + 1 = 3 := by (intro C ds P X h; first | exact congrArg (· + 1) h | (obtain ⟨_, rfl, _⟩ := h; rfl) | (obtain ⟨_, _, rfl, _⟩ := h; rfl) | (obtain ⟨_, _, _, rfl, _⟩ := h; rfl) | (obtain ⟨_, _, _, _, rfl, _⟩ := h; rfl) | (obtain ⟨rfl, _⟩ := h; rfl))
theorem ok_Grid___init__ (T : Txt K mg) : FnOk Pg T.w0 K mg base (L2.CX Pg T.w0) 7 T.D_Grid___init__.f T.D_Grid___init__.d ["self", "bases", "rows"] (spInit K (F_Grid___init__ T)) := by
  have G_BadGrid___init__ := ok_BadGrid___init__ (Pg := Pg) (base := base) T
  have G__wrong_part := ok__wrong_part (Pg := Pg) (base := base) T
  refine T.D_Grid___init__.F.okX (k := 6) sc_Grid___init__ (spInit_len (len_Grid___init__ T)) (fun cdv A outer s H vs Q E hr h => ?_)
  refine ⟨_, (pss_cons (ps_set (i := 3) sc_Grid___init__.nd rfl (by first | exact Or.inl rfl | exact Or.inr rfl) (pe_call G__wrong_part (hr.mono (by decide)) (by rfl) T.D__wrong_part.g T.D__wrong_part.F.kp T.D__wrong_part.b .nil pass0 (pa_cons (pv 1) (pa_cons (pv 2) pa_nil))))
    (pss_cons (ps_if (pt_cmpR op_notN (pv 3) pe_non (nomark _))
      (pss_one (ps_raise rfl (takes_of rfl rfl rfl rfl) (pmk_oex T.x_BadGrid.o T.x_BadGrid.i T.ty_BadGrid___init__ G_BadGrid___init__ (hr.mono (by decide)) T.D_BadGrid___init__.b .nil pass0 (by rfl) T.x_BadGrid.g (pa_cons (pv 3) pa_nil))))
      pss_nil)
    (pss_cons (ps_fld (pv 0) (pv 1) (by rfl))
    (pss_one (ps_fld (pv 0) (pv 2) (by rfl)))))), ?_⟩
  try dsimp only [cxOf, Cx.blk, Cx.nox, Cx.wish]
  refine init_body2 h (by decide) fun W C x ds P X eK f => ?_
  subst eK
  obtain ⟨b, y, rfl, rfl, jb, jy, hP, hX⟩ := f
  refine ⟨T.k_Grid.o.cl, T.na_Grid_bases, T.na_Grid_rows, ?_⟩
  walk_at "pd"
  refine ⟨b, y, rfl, jb, jy, ?_⟩
  walk_at "pd"
  refine ⟨fun q => ?_, fun q => ?_⟩
  · refine sx_raise1 T.x_BadGrid.o T.nx_BadGrid_part ?_
    walk_at "pd"
    refine ⟨_, rfl, hX fun z => ?_⟩
    rw [z] at q
    cases q
  · walk_at "pd"
    exact ⟨_, _, rfl, rfl, rfl, hP (isNon_of (by simpa using q))⟩
theorem rws_grd {n : Int} {r c : Nat} {x : D} (h : Rws n r c x) (n1 : 1 ≤ n) (n3 : n ≤ 3) (r1 : 1 ≤ r) (r10 : r ≤ 10) (c1 : 1 ≤ c) (c10 : c ≤ 10) : ∃ xs, x = .tup xs ∧ xs.length = r ∧ Grd n c xs := by
  obtain ⟨xs, rfl, hl, hx⟩ := h
  exact ⟨xs, rfl, hl, n1, n3, by omega, by omega, c1, c10, hx⟩
def F__law_grid {K : PySem.W.Frag} {mg : Str → Option Value} (T : Txt K mg) : FD := fun ds P => ∃ n m : Int, ds = [.st, .int n, .int m] ∧ 1 ≤ n ∧ n ≤ 3 ∧ 1 ≤ m ∧ m ≤ 5 ∧ ∀ (c : Nat) (xs : List D), Grd n c xs → xs.length ≤ 5 → c ≤ 5 → P (gd T.k_Grid.C n xs)
theorem len__law_grid {K : PySem.W.Frag} {mg : Str → Option Value} (T : Txt K mg) : ∀ ds P, (F__law_grid T) ds P → ds.length = 3 := by (intro ds P h; first | exact h | (obtain ⟨_, rfl, _⟩ := h; rfl) | (obtain ⟨_, _, rfl, _⟩ := h; rfl) | (obtain ⟨_, _, _, rfl, _⟩ := h; rfl) | (obtain ⟨_, _, _, _, rfl, _⟩ := h; rfl) | (obtain ⟨_, _, _, _, _, rfl, _⟩ := h; rfl) | (obtain ⟨_, _, _, _, _, _, rfl, _⟩ := h; rfl) | (obtain ⟨_, _, _, _, _, _, _, rfl, _⟩ := h; rfl) | (obtain ⟨_, _, _, _, _, _, _, _, rfl, _⟩ := h; rfl) | (obtain ⟨_, _, _, _, _, _, _, _, _, rfl, _⟩ := h; rfl) | (obtain ⟨_, _, _, _, _, _, _, _, _, _, rfl, _⟩ := h; rfl) | (obtain ⟨_, _, _, _, _, _, _, _, _, _, _, rfl, _⟩ := h; rfl) | (obtain ⟨_, _, _, _, _, _, _, _, _, _, _, _, rfl, _⟩ := h; rfl) | (obtain ⟨_, _, _, _, _, _, _, _, _, _, _, _, _, rfl, _⟩ := h; rfl) | (obtain ⟨rfl, _⟩ := h; rfl))
theorem ok__law_grid (T : Txt K mg) : FnOk Pg T.w0 K mg base CX0 9 T.D__law_grid.f T.D__law_grid.d ["state", "bases", "many"] ((spD K (F__law_grid T))) := by
  have G_Grid___init__ := ok_Grid___init__ (Pg := Pg) (base := base) T
  have G__law_draw := ok__law_draw (Pg := Pg) (base := base) T
  have G__law_rows := ok__law_rows (Pg := Pg) (base := base) T
  refine T.D__law_grid.F.ok (k := 8) sc__law_grid (spD_len (len__law_grid T)) (fun cdv A outer s H vs Q E hr h => ?_)
  refine ⟨_, (pss_cons (ps_set (i := 3) sc__law_grid.nd rfl (by first | exact Or.inl rfl | exact Or.inr rfl) (pe_ix (ix_seqK (K := K) rfl) (pe_lst (pa_cons (pv 2) (pa_cons (pv 2) (pa_cons (pe_op (op_plusK (K := K) rfl) pe_int (pe_call G__law_draw (hr.mono (by decide)) (by rfl) T.D__law_draw.g T.D__law_draw.F.kp T.D__law_draw.b .nil pass0 (pa_cons (pv 0) (pa_cons pe_int pa_nil)))) pa_nil)))) (pe_call G__law_draw (hr.mono (by decide)) (by rfl) T.D__law_draw.g T.D__law_draw.F.kp T.D__law_draw.b .nil pass0 (pa_cons (pv 0) (pa_cons pe_int pa_nil))) (fun _ _ => rfl)))
    (pss_one (ps_ret (pe_make T.k_Grid.m G_Grid___init__ (hr.mono (by decide)) (by rfl) T.k_Grid.g T.D_Grid___init__.b .nil passF (pa_cons (pv 1) (pa_cons (pe_call G__law_rows (hr.mono (by decide)) (by rfl) T.D__law_rows.g T.D__law_rows.F.kp T.D__law_rows.b .nil pass0 (pa_cons (pv 0) (pa_cons (pv 1) (pa_cons (pv 3) (pa_cons (pe_ix (ix_seqK (K := K) rfl) (pe_lst (pa_cons (pv 2) (pa_cons (pe_op (op_plusK (K := K) rfl) pe_int (pe_call G__law_draw (hr.mono (by decide)) (by rfl) T.D__law_draw.g T.D__law_draw.F.kp T.D__law_draw.b .nil pass0 (pa_cons (pv 0) (pa_cons pe_int pa_nil)))) pa_nil))) (pe_call G__law_draw (hr.mono (by decide)) (by rfl) T.D__law_draw.g T.D__law_draw.F.kp T.D__law_draw.b .nil pass0 (pa_cons (pv 0) (pa_cons pe_int pa_nil))) (fun _ _ => rfl)) (pa_cons pe_int pa_nil)))))) pa_nil)))))), ?_⟩
  try dsimp only [cxOf, Cx.blk, Cx.nox, Cx.wish]
  (refine body_of h fun W ds P eK f => ?_); subst eK
  obtain ⟨n, m, rfl, n1, n3, m1, m5, hP⟩ := f
  walk_at "pd"
  refine draw_lit (by decide +kernel) fun a a0 a1 => ?_
  walk_at "pd"
  refine draw_lit (by decide +kernel) fun b b0 b1 => ?_
  refine rd_ixLm (by omega) (by show b < 3; omega) fun d hd => ?_
  have hr : ∃ r : Int, d = .int r ∧ 1 ≤ r ∧ r ≤ 5 := by
    simp only [List.mem_cons, List.not_mem_nil, or_false] at hd
    rcases hd with rfl | rfl | rfl <;> exact ⟨_, rfl, by omega, by omega⟩
  obtain ⟨r, rfl, r1, r5⟩ := hr
  walk_at "pd"
  refine draw_lit (by decide +kernel) fun a a0 a1 => ?_
  walk_at "pd"
  refine draw_lit (by decide +kernel) fun b b0 b1 => ?_
  refine rd_ixLm (by omega) (by show b < 2; omega) fun d hd => ?_
  have hc : ∃ r : Int, d = .int r ∧ 1 ≤ r ∧ r ≤ 5 := by
    simp only [List.mem_cons, List.not_mem_nil, or_false] at hd
    rcases hd with rfl | rfl <;> exact ⟨_, rfl, by omega, by omega⟩
  obtain ⟨c, rfl, c1, c5⟩ := hc
  walk_at "pd"
  refine ⟨n, r, c, 3, rfl, by omega, n3, by omega, by omega, by omega, by omega, by decide, by decide, fun x hx => ?_⟩
  obtain ⟨xs, rfl, hl, g⟩ := rws_grd hx n1 n3 (by omega) (by omega) (by omega) (by omega)
  walk_at "pd"
  exact ⟨_, _, rfl, rfl, by simp only [Jd], g.jd, fun _ => hP c.toNat xs g (by omega) (by omega), fun z => absurd g.wrong z⟩
def deepD : Nat → D
  | 0 => fr (0, 1)
  | n + 1 => .tup [deepD n]
theorem deep_gd (K : PySem.W.Frag) : ∀ n, Gd K (deepD n)
  | 0 => .fr K (by decide) (by decide)
  | n + 1 => .tup (fun x hx => by
      rw [List.mem_singleton.mp hx]
      exact deep_gd K n) (by show 1 ≤ 1000; decide)
theorem deep_len : ∀ n, (deepD n).len ≤ 4
  | 0 => by decide
  | n + 1 => by show (1 : Int) ≤ 4; decide
def F__law_odd {K : PySem.W.Frag} {mg : Str → Option Value} (T : Txt K mg) : FD := fun ds P => ds = [.st] ∧ ∀ x, Gd K x → x.len ≤ 4 → P x
theorem len__law_odd {K : PySem.W.Frag} {mg : Str → Option Value} (T : Txt K mg) : ∀ ds P, (F__law_odd T) ds P → ds.length = 1 := by (intro ds P h; first | exact h | (obtain ⟨_, rfl, _⟩ := h; rfl) | (obtain ⟨_, _, rfl, _⟩ := h; rfl) | (obtain ⟨_, _, _, rfl, _⟩ := h; rfl) | (obtain ⟨_, _, _, _, rfl, _⟩ := h; rfl) | (obtain ⟨_, _, _, _, _, rfl, _⟩ := h; rfl) | (obtain ⟨_, _, _, _, _, _, rfl, _⟩ := h; rfl) | (obtain ⟨_, _, _, _, _, _, _, rfl, _⟩ := h; rfl) | (obtain ⟨_, _, _, _, _, _, _, _, rfl, _⟩ := h; rfl) | (obtain ⟨_, _, _, _, _, _, _, _, _, rfl, _⟩ := h; rfl) | (obtain ⟨_, _, _, _, _, _, _, _, _, _, rfl, _⟩ := h; rfl) | (obtain ⟨_, _, _, _, _, _, _, _, _, _, _, rfl, _⟩ := h; rfl) | (obtain ⟨_, _, _, _, _, _, _, _, _, _, _, _, rfl, _⟩ := h; rfl) | (obtain ⟨_, _, _, _, _, _, _, _, _, _, _, _, _, rfl, _⟩ := h; rfl) | (obtain ⟨rfl, _⟩ := h; rfl))
theorem ok__law_odd (T : Txt K mg) : FnOk Pg T.w0 K mg base CX0 9 T.D__law_odd.f T.D__law_odd.d ["state"] ((spD K (F__law_odd T))) := by
  have G_Grid___init__ := ok_Grid___init__ (Pg := Pg) (base := base) T
  have G__law_draw := ok__law_draw (Pg := Pg) (base := base) T
  refine T.D__law_odd.F.ok (k := 8) sc__law_odd (spD_len (len__law_odd T)) (fun cdv A outer s H vs Q E hr h => ?_)
  refine ⟨_, (pss_cons (ps_set (i := 1) sc__law_odd.nd rfl (by first | exact Or.inl rfl | exact Or.inr rfl) (pe_tup (pa_cons pe_int (pa_cons pe_int pa_nil))))
    (pss_cons (ps_for PassesOwn.never rfl (pi_range1 (by rfl) T.n_range (pa_cons pe_int pa_nil)) (pg_name (i := 2) sc__law_odd.nd rfl (by first | exact Or.inl rfl | exact Or.inr rfl))
      (pss_one (ps_set (i := 1) sc__law_odd.nd rfl (by first | exact Or.inl rfl | exact Or.inr rfl) (pe_tup (pa_cons (pv 1) pa_nil)))))
    (pss_cons (ps_set (i := 3) sc__law_odd.nd rfl (by first | exact Or.inl rfl | exact Or.inr rfl) (pe_lst (pa_cons pe_non (pa_cons pe_bl (pa_cons pe_bl (pa_cons pe_int (pa_cons (pe_un un_neg pe_int) (pa_cons (pe_op op_pow pe_int pe_int) (pa_cons pe_str (pa_cons pe_str (pa_cons pe_str (pa_cons (pe_tup pa_nil) (pa_cons (pe_lst pa_nil) (pa_cons pe_dnewK (pa_cons (pe_tup (pa_cons pe_int pa_nil)) (pa_cons (pe_lst (pa_cons pe_int pa_nil)) (pa_cons (pe_disp (pps_cons pe_int pe_int pps_nil) rfl rfl (by simp) (by decide)) (pa_cons (pe_tup (pa_cons pe_int (pa_cons pe_int pa_nil))) (pa_cons (pe_lst (pa_cons (pe_tup (pa_cons pe_int (pa_cons pe_int pa_nil))) pa_nil)) pa_nil)))))))))))))))))))
    (pss_cons (ps_set (i := 4) sc__law_odd.nd rfl (by first | exact Or.inl rfl | exact Or.inr rfl) (pe_lst (pa_cons (pe_tup (pa_cons (pe_tup (pa_cons pe_int (pa_cons pe_int pa_nil))) pa_nil)) (pa_cons (pe_tup (pa_cons (pe_tup (pa_cons pe_int (pa_cons pe_int pa_nil))) (pa_cons (pe_tup (pa_cons pe_int (pa_cons pe_int pa_nil))) pa_nil))) (pa_cons (pe_tup (pa_cons (pe_tup (pa_cons pe_int (pa_cons pe_int pa_nil))) (pa_cons pe_non pa_nil))) (pa_cons (pe_tup (pa_cons (pe_tup (pa_cons pe_int (pa_cons pe_int pa_nil))) pa_nil)) (pa_cons (pe_tup (pa_cons (pe_tup (pa_cons pe_int (pa_cons pe_int pa_nil))) pa_nil)) (pa_cons (pe_tup (pa_cons (pe_tup (pa_cons pe_int (pa_cons (pe_un un_neg pe_int) pa_nil))) pa_nil)) (pa_cons (pe_tup (pa_cons (pe_tup (pa_cons pe_bl (pa_cons pe_int pa_nil))) pa_nil)) (pa_cons (pv 1) pa_nil))))))))))
    (pss_cons (ps_set (i := 5) sc__law_odd.nd rfl (by first | exact Or.inl rfl | exact Or.inr rfl) (pe_lst (pa_cons (pe_lst (pa_cons (pv 1) pa_nil)) (pa_cons (pe_make T.k_Grid.m G_Grid___init__ (hr.mono (by decide)) (by rfl) T.k_Grid.g T.D_Grid___init__.b .nil passF (pa_cons pe_int (pa_cons (pe_tup (pa_cons (pe_tup (pa_cons pe_non pa_nil)) pa_nil)) pa_nil))) (pa_cons (pe_tup (pa_cons (pe_make T.k_Grid.m G_Grid___init__ (hr.mono (by decide)) (by rfl) T.k_Grid.g T.D_Grid___init__.b .nil passF (pa_cons pe_int (pa_cons (pe_tup (pa_cons (pe_tup (pa_cons pe_non pa_nil)) pa_nil)) pa_nil))) pa_nil)) (pa_cons (pe_tup (pa_cons (pe_tup (pa_cons pe_int (pa_cons pe_int pa_nil))) (pa_cons (pe_lst (pa_cons pe_int (pa_cons pe_int pa_nil))) pa_nil))) (pa_cons (pe_op (op_repTK (K := K) rfl) (pe_tup (pa_cons (pe_tup (pa_cons pe_int (pa_cons pe_int pa_nil))) pa_nil)) pe_int) (pa_cons (pe_tup (pa_cons pe_str (pa_cons pe_str pa_nil))) (pa_cons (pe_tup (pa_cons pe_int (pa_cons pe_int pa_nil))) pa_nil)))))))))
    (pss_cons (ps_set (i := 6) sc__law_odd.nd rfl (by first | exact Or.inl rfl | exact Or.inr rfl) (pe_op (op_plusK (K := K) rfl) (pe_op (op_plusK (K := K) rfl) (pv 3) (pv 4)) (pv 5)))
    (pss_one (ps_ret (pe_ix (ix_seqK (K := K) rfl) (pv 6) (pe_call G__law_draw (hr.mono (by decide)) (by rfl) T.D__law_draw.g T.D__law_draw.F.kp T.D__law_draw.b .nil pass0 (pa_cons (pv 0) (pa_cons (pe_callB (call_lenK (K := K) rfl) (by rfl) T.n_len (by decide +kernel) (pa_cons (pv 6) pa_nil)) pa_nil))) (fun _ _ => rfl)))))))))), ?_⟩
  try dsimp only [cxOf, Cx.blk, Cx.nox, Cx.wish]
  (refine body_of h fun W ds P eK f => ?_); subst eK
  obtain ⟨rfl, hP⟩ := f
  walk_at "pd"
  refine sd_for (it_rng1 ?_)
  walk_at "pd"
  refine ⟨_, rfl, by decide, by decide, fun i δ => ∃ x, δ = [some .st, some (deepD i), x, none, none, none, none], ⟨none, rfl⟩, fun i d δ hd hI => ?_, fun δ hI => ?_⟩
  · obtain ⟨x, rfl⟩ := hI
    refine ⟨_, gd_name ?_⟩
    walk_at "pd"
    exact ⟨_, rfl⟩
  · obtain ⟨x, rfl⟩ := hI
    rw [rngD_length]
    have dk := deep_gd W.K 36
    have dl := deep_len 36
    rw [show ((36 : Int).toNat) = 36 from rfl]
    generalize deepD 36 = dp at dk dl
    have oG := T.k_Grid.o
    have dkl : Gd W.K (.lst [dp]) := .lst (fun x hx => by rw [List.mem_singleton.mp hx]; exact dk) (by show 1 ≤ 1000; decide)
    walk_at "pd"
    refine ⟨_, _, rfl, rfl, by simp only [Jd], by simp only [Jd, JdA, and_self], fun _ => ?_, fun z => absurd (by rfl) z⟩
    walk_at "pd"
    refine ⟨_, _, rfl, rfl, by simp only [Jd], by simp only [Jd, JdA, and_self], fun _ => ?_, fun z => absurd (by rfl) z⟩
    walk_at "pd"
    refine rd_repT (by simp) (by decide) (by decide) (by simp) ?_
    walk_at "pd"
    refine rd_plusL (by simp) ?_
    walk_at "pd"
    refine rd_plusL (by simp) ?_
    walk_at "pd"
    refine draw_small (by simp) (by simp) fun r r0 r1 => ?_
    refine rd_ixLm (by omega) r1 fun d hd => ?_
    simp only [List.cons_append, List.nil_append, List.mem_cons, List.not_mem_nil, or_false] at hd
    rw [show (List.replicate (Int.toNat 4) [D.tup [D.int 0, D.int 1]]).flatten = [fr (0, 1), fr (0, 1), fr (0, 1), fr (0, 1)] from rfl] at hd
    have gG : ∀ b r, Gd W.K (.ins T.k_Grid.C b r) := fun b r => ⟨by simp only [Jd]; exact oG, by simp only [D.slim]⟩
    repeat' (rcases hd with rfl | hd)
    all_goals first
      | exact hP _ dk dl
      | exact hP _ dkl (by show (-1 : Int) ≤ 4; decide)
      | exact hP _ ⟨by simp only [Jd, JdA, and_self], by decide +kernel⟩ (by decide +kernel)
      | exact hP _ (gG _ _) (by show (-1 : Int) ≤ 4; decide)
      | exact hP _ (Gd.tup (fun x hx => by rw [List.mem_singleton.mp hx]; exact gG _ _) (by show 1 ≤ 1000; decide)) (by show (1 : Int) ≤ 4; decide)
      | exact hP _ (Gd.tup (fun x hx => by rw [List.mem_singleton.mp hx]; exact dk) (by show 1 ≤ 1000; decide)) (by show (1 : Int) ≤ 4; decide)
def F__law_place {K : PySem.W.Frag} {mg : Str → Option Value} (T : Txt K mg) : FD := fun ds P => ∃ m : Int, ds = [.st, .int m] ∧ 1 ≤ m ∧ m ≤ 1000 ∧ ∀ x, Gd K x → P x
theorem len__law_place {K : PySem.W.Frag} {mg : Str → Option Value} (T : Txt K mg) : ∀ ds P, (F__law_place T) ds P → ds.length = 2 := by (intro ds P h; first | exact h | (obtain ⟨_, rfl, _⟩ := h; rfl) | (obtain ⟨_, _, rfl, _⟩ := h; rfl) | (obtain ⟨_, _, _, rfl, _⟩ := h; rfl) | (obtain ⟨_, _, _, _, rfl, _⟩ := h; rfl) | (obtain ⟨_, _, _, _, _, rfl, _⟩ := h; rfl) | (obtain ⟨_, _, _, _, _, _, rfl, _⟩ := h; rfl) | (obtain ⟨_, _, _, _, _, _, _, rfl, _⟩ := h; rfl) | (obtain ⟨_, _, _, _, _, _, _, _, rfl, _⟩ := h; rfl) | (obtain ⟨_, _, _, _, _, _, _, _, _, rfl, _⟩ := h; rfl) | (obtain ⟨_, _, _, _, _, _, _, _, _, _, rfl, _⟩ := h; rfl) | (obtain ⟨_, _, _, _, _, _, _, _, _, _, _, rfl, _⟩ := h; rfl) | (obtain ⟨_, _, _, _, _, _, _, _, _, _, _, _, rfl, _⟩ := h; rfl) | (obtain ⟨_, _, _, _, _, _, _, _, _, _, _, _, _, rfl, _⟩ := h; rfl) | (obtain ⟨rfl, _⟩ := h; rfl))
theorem ok__law_place (T : Txt K mg) : FnOk Pg T.w0 K mg base CX0 10 T.D__law_place.f T.D__law_place.d ["state", "many"] ((spD K (F__law_place T))) := by
  have G__law_draw := ok__law_draw (Pg := Pg) (base := base) T
  have G__law_odd := ok__law_odd (Pg := Pg) (base := base) T
  refine T.D__law_place.F.ok (k := 9) sc__law_place (spD_len (len__law_place T)) (fun cdv A outer s H vs Q E hr h => ?_)
  refine ⟨_, (pss_cons (ps_set (i := 2) sc__law_place.nd rfl (by first | exact Or.inl rfl | exact Or.inr rfl) (pe_call G__law_draw (hr.mono (by decide)) (by rfl) T.D__law_draw.g T.D__law_draw.F.kp T.D__law_draw.b .nil pass0 (pa_cons (pv 0) (pa_cons pe_int pa_nil))))
    (pss_cons (ps_if (pt_cmpR (op_eqDK (K := K) rfl (hr_u hr)) (pv 2) pe_int (nomark _))
      (pss_one (ps_ret (pe_call G__law_odd (hr.mono (by decide)) (by rfl) T.D__law_odd.g T.D__law_odd.F.kp T.D__law_odd.b .nil pass0 (pa_cons (pv 0) pa_nil))))
      pss_nil)
    (pss_cons (ps_if (pt_cmpR (op_eqDK (K := K) rfl (hr_u hr)) (pv 2) pe_int (nomark _))
      (pss_one (ps_ret (pe_ix (ix_seqK (K := K) rfl) (pe_lst (pa_cons (pe_un un_neg pe_int) (pa_cons (pv 1) (pa_cons (pe_op (op_plusK (K := K) rfl) (pv 1) pe_int) (pa_cons (pe_op op_pow pe_int pe_int) pa_nil))))) (pe_call G__law_draw (hr.mono (by decide)) (by rfl) T.D__law_draw.g T.D__law_draw.F.kp T.D__law_draw.b .nil pass0 (pa_cons (pv 0) (pa_cons pe_int pa_nil))) (fun _ _ => rfl))))
      pss_nil)
    (pss_one (ps_ret (pe_call G__law_draw (hr.mono (by decide)) (by rfl) T.D__law_draw.g T.D__law_draw.F.kp T.D__law_draw.b .nil pass0 (pa_cons (pv 0) (pa_cons (pv 1) pa_nil)))))))), ?_⟩
  try dsimp only [cxOf, Cx.blk, Cx.nox, Cx.wish]
  (refine body_of h fun W ds P eK f => ?_); subst eK
  obtain ⟨m, rfl, h1, h3, hP⟩ := f
  walk_at "pd"
  refine draw_lit (by decide +kernel) fun k k0 k1 => ?_
  walk_at "pd"
  refine ⟨fun z => ?_, fun z => ?_⟩
  · walk_at "pd"
    exact ⟨rfl, fun x h _ => hP x h⟩
  walk_at "pd"
  refine ⟨fun z => ?_, fun z => ?_⟩
  · walk_at "pd"
    refine draw_lit (by decide +kernel) fun r r0 r1 => ?_
    refine rd_ixLm (by omega) (by show r < 4; omega) fun d hd => ?_
    simp only [List.mem_cons, List.not_mem_nil, or_false] at hd
    rcases hd with rfl | rfl | rfl | rfl
    · exact hP _ (.int W.K (by decide))
    · exact hP _ (.int W.K (by omega))
    · exact hP _ (.int W.K (by omega))
    · exact hP _ (.int W.K (by decide))
  walk_at "pd"
  exact draw_small (by omega) (by omega) fun r r0 r1 => hP _ (.int W.K (by omega))
def F__law_thing {K : PySem.W.Frag} {mg : Str → Option Value} (T : Txt K mg) : FD := fun ds P => ∃ n : Int, ds = [.st, .int n] ∧ 1 ≤ n ∧ n ≤ 3 ∧ ∀ x, Gd K x → P x
theorem len__law_thing {K : PySem.W.Frag} {mg : Str → Option Value} (T : Txt K mg) : ∀ ds P, (F__law_thing T) ds P → ds.length = 2 := by (intro ds P h; first | exact h | (obtain ⟨_, rfl, _⟩ := h; rfl) | (obtain ⟨_, _, rfl, _⟩ := h; rfl) | (obtain ⟨_, _, _, rfl, _⟩ := h; rfl) | (obtain ⟨_, _, _, _, rfl, _⟩ := h; rfl) | (obtain ⟨_, _, _, _, _, rfl, _⟩ := h; rfl) | (obtain ⟨_, _, _, _, _, _, rfl, _⟩ := h; rfl) | (obtain ⟨_, _, _, _, _, _, _, rfl, _⟩ := h; rfl) | (obtain ⟨_, _, _, _, _, _, _, _, rfl, _⟩ := h; rfl) | (obtain ⟨_, _, _, _, _, _, _, _, _, rfl, _⟩ := h; rfl) | (obtain ⟨_, _, _, _, _, _, _, _, _, _, rfl, _⟩ := h; rfl) | (obtain ⟨_, _, _, _, _, _, _, _, _, _, _, rfl, _⟩ := h; rfl) | (obtain ⟨_, _, _, _, _, _, _, _, _, _, _, _, rfl, _⟩ := h; rfl) | (obtain ⟨_, _, _, _, _, _, _, _, _, _, _, _, _, rfl, _⟩ := h; rfl) | (obtain ⟨rfl, _⟩ := h; rfl))
theorem ok__law_thing (T : Txt K mg) : FnOk Pg T.w0 K mg base CX0 10 T.D__law_thing.f T.D__law_thing.d ["state", "bases"] ((spD K (F__law_thing T))) := by
  have G__law_draw := ok__law_draw (Pg := Pg) (base := base) T
  have G__law_odd := ok__law_odd (Pg := Pg) (base := base) T
  have G__law_unit := ok__law_unit (Pg := Pg) (base := base) T
  refine T.D__law_thing.F.ok (k := 9) sc__law_thing (spD_len (len__law_thing T)) (fun cdv A outer s H vs Q E hr h => ?_)
  refine ⟨_, (pss_cons (ps_set (i := 2) sc__law_thing.nd rfl (by first | exact Or.inl rfl | exact Or.inr rfl) (pe_call G__law_draw (hr.mono (by decide)) (by rfl) T.D__law_draw.g T.D__law_draw.F.kp T.D__law_draw.b .nil pass0 (pa_cons (pv 0) (pa_cons pe_int pa_nil))))
    (pss_cons (ps_if (pt_cmpR (op_eqDK (K := K) rfl (hr_u hr)) (pv 2) pe_int (nomark _))
      (pss_one (ps_ret (pe_call G__law_odd (hr.mono (by decide)) (by rfl) T.D__law_odd.g T.D__law_odd.F.kp T.D__law_odd.b .nil pass0 (pa_cons (pv 0) pa_nil))))
      pss_nil)
    (pss_cons (ps_if (pt_cmpR (op_eqDK (K := K) rfl (hr_u hr)) (pv 2) pe_int (nomark _))
      (pss_one (ps_ret (pe_call G__law_unit (hr.mono (by decide)) (by rfl) T.D__law_unit.g T.D__law_unit.F.kp T.D__law_unit.b .nil pass0 (pa_cons (pv 0) (pa_cons (pe_op (op_plusK (K := K) rfl) pe_int (pe_call G__law_draw (hr.mono (by decide)) (by rfl) T.D__law_draw.g T.D__law_draw.F.kp T.D__law_draw.b .nil pass0 (pa_cons (pv 0) (pa_cons pe_int pa_nil)))) pa_nil)))))
      pss_nil)
    (pss_cons (ps_set (i := 3) sc__law_thing.nd rfl (by first | exact Or.inl rfl | exact Or.inr rfl) (pe_ix (ix_seqK (K := K) rfl) (pe_lst (pa_cons (pe_tup (pa_cons pe_int (pa_cons pe_int pa_nil))) (pa_cons (pe_tup (pa_cons pe_int (pa_cons pe_int pa_nil))) (pa_cons (pe_tup (pa_cons (pe_un un_neg pe_int) (pa_cons pe_int pa_nil))) (pa_cons (pe_tup (pa_cons (pe_un un_neg pe_int) (pa_cons pe_int pa_nil))) (pa_cons (pe_tup (pa_cons pe_int (pa_cons pe_int pa_nil))) (pa_cons (pe_tup (pa_cons pe_int (pa_cons pe_int pa_nil))) (pa_cons (pe_tup (pa_cons (pe_un un_neg pe_int) (pa_cons pe_int pa_nil))) (pa_cons (pe_tup (pa_cons pe_int (pa_cons pe_int pa_nil))) pa_nil))))))))) (pe_call G__law_draw (hr.mono (by decide)) (by rfl) T.D__law_draw.g T.D__law_draw.F.kp T.D__law_draw.b .nil pass0 (pa_cons (pv 0) (pa_cons pe_int pa_nil))) (fun _ _ => rfl)))
    (pss_cons (ps_set (i := 4) sc__law_thing.nd rfl (by first | exact Or.inl rfl | exact Or.inr rfl) (pe_call G__law_unit (hr.mono (by decide)) (by rfl) T.D__law_unit.g T.D__law_unit.F.kp T.D__law_unit.b .nil pass0 (pa_cons (pv 0) (pa_cons (pv 1) pa_nil))))
    (pss_one (ps_ret (pe_ifExp (pt_cmpR (op_eqDK (K := K) rfl (hr_u hr)) (pv 2) pe_int (nomark _)) (pe_op (op_plusK (K := K) rfl) (pe_slice (sl_tupAK (K := K) rfl) (pv 4) po_none (po_some (pe_un un_neg pe_int))) (pe_tup (pa_cons (pv 3) pa_nil))) (pv 4))))))))), ?_⟩
  try dsimp only [cxOf, Cx.blk, Cx.nox, Cx.wish]
  (refine body_of h fun W ds P eK f => ?_); subst eK
  obtain ⟨n, rfl, h1, h3, hP⟩ := f
  have gu : ∀ {u : List Fr}, (∀ p ∈ u, Ex p) → ∀ d ∈ u.map fr, Gd W.K d := fun {u} hu d hd => by
    obtain ⟨p, hp, rfl⟩ := List.mem_map.mp hd
    have := hu p hp
    have := this.1.1
    exact .fr W.K (by have := (hu p hp).2; omega) (by have := (hu p hp).2; omega)
  walk_at "pd"
  refine draw_lit (by decide +kernel) fun k k0 k1 => ?_
  walk_at "pd"
  refine ⟨fun z => ?_, fun z => ?_⟩
  · walk_at "pd"
    exact ⟨rfl, fun x h _ => hP x h⟩
  walk_at "pd"
  refine ⟨fun z => ?_, fun z => ?_⟩
  · walk_at "pd"
    refine draw_lit (by decide +kernel) fun r r0 r1 => ?_
    walk_at "pd"
    exact ⟨_, rfl, by omega, by omega, fun u hl hu => hP _ (.tup (gu hu) (by rw [List.length_map]; omega))⟩
  walk_at "pd"
  refine draw_lit (by decide +kernel) fun e e0 e1 => ?_
  refine rd_ixLm (by omega) (by show e < 8; omega) fun d hd => ?_
  have hd2 : Gd W.K d := by
    simp only [List.mem_cons, List.not_mem_nil, or_false] at hd
    rcases hd with rfl | rfl | rfl | rfl | rfl | rfl | rfl | rfl <;> exact .fr W.K (p := (_, _)) (by decide) (by decide)
  walk_at "pd"
  refine ⟨n, rfl, by omega, h3, fun u hl hu => ?_⟩
  have hl2 : (u.map fr).length ≤ 3 := by rw [List.length_map]; omega
  walk_at "pd"
  refine ⟨fun z => ?_, fun z => ?_⟩
  · walk_at "pd"
    refine ⟨_, rfl, ?_⟩
    walk_at "pd"
    refine ⟨_, rfl, ?_⟩
    walk_at "pd"
    have c1 := cutD_len (u.map fr) none (some (-1))
    refine rd_plusT (by show _ + 1 ≤ 100000; omega) ?_
    refine hP _ (.tup (fun x hx => ?_) (by rw [List.length_append]; show _ + 1 ≤ 1000; omega))
    rcases List.mem_append.mp hx with hx | hx
    · exact gu hu x (cutD_mem hx)
    · rw [List.mem_singleton.mp hx]
      exact hd2
  · walk_at "pd"
    exact hP _ (.tup (gu hu) (by omega))
def F__law_is_place (K : PySem.W.Frag) : FD := fun ds P => ∃ (x : D) (m : Int), ds = [x, .int m] ∧ Jd1 K x ∧ P (.bl (inI x m))
theorem len__law_is_place (K : PySem.W.Frag) : ∀ ds P, (F__law_is_place K) ds P → ds.length = 2 := by (intro ds P h; first | exact h | (obtain ⟨_, rfl, _⟩ := h; rfl) | (obtain ⟨_, _, rfl, _⟩ := h; rfl) | (obtain ⟨_, _, _, rfl, _⟩ := h; rfl) | (obtain ⟨_, _, _, _, rfl, _⟩ := h; rfl) | (obtain ⟨_, _, _, _, _, rfl, _⟩ := h; rfl) | (obtain ⟨_, _, _, _, _, _, rfl, _⟩ := h; rfl) | (obtain ⟨_, _, _, _, _, _, _, rfl, _⟩ := h; rfl) | (obtain ⟨_, _, _, _, _, _, _, _, rfl, _⟩ := h; rfl) | (obtain ⟨_, _, _, _, _, _, _, _, _, rfl, _⟩ := h; rfl) | (obtain ⟨_, _, _, _, _, _, _, _, _, _, rfl, _⟩ := h; rfl) | (obtain ⟨_, _, _, _, _, _, _, _, _, _, _, rfl, _⟩ := h; rfl) | (obtain ⟨_, _, _, _, _, _, _, _, _, _, _, _, rfl, _⟩ := h; rfl) | (obtain ⟨_, _, _, _, _, _, _, _, _, _, _, _, _, rfl, _⟩ := h; rfl) | (obtain ⟨rfl, _⟩ := h; rfl))
theorem ok__law_is_place (T : Txt K mg) : FnOk Pg T.w0 K mg base CX0 2 T.D__law_is_place.f T.D__law_is_place.d ["thing", "many"] ((spD K (F__law_is_place K))) := by
  have G__law_is_integer := ok__law_is_integer (Pg := Pg) (base := base) T
  refine T.D__law_is_place.F.ok (k := 1) sc__law_is_place (spD_len (len__law_is_place K)) (fun cdv A outer s H vs Q E hr h => ?_)
  refine ⟨_, (pss_one (ps_ret (pe_and (pe_call G__law_is_integer (hr.mono (by decide)) (by rfl) T.D__law_is_integer.g T.D__law_is_integer.F.kp T.D__law_is_integer.b .nil pass0 (pa_cons (pv 0) pa_nil)) (pe_one (pe_chain op_le op_lt pe_int (pv 0) (pv 1)))))), ?_⟩
  try dsimp only [cxOf, Cx.blk, Cx.nox, Cx.wish]
  (refine body_of h fun W ds P eK f => ?_); subst eK
  obtain ⟨x, m, rfl, hx, hP⟩ := f
  walk_at "pd"
  refine ⟨x, rfl, hx, ?_⟩
  walk_at "pd"
  refine ⟨fun q => ?_, fun q => ?_⟩
  · obtain ⟨i, rfl⟩ := isInt_of q
    have hP : P (.bl (true && decide (0 ≤ i) && decide (i < m))) := hP
    rw [Bool.true_and] at hP
    walk_at "pd"
    refine ⟨fun q2 => ?_, fun q2 => ?_⟩
    · rw [q2, Bool.true_and] at hP
      walk_at "pd"
      exact hP
    · rw [q2, Bool.false_and] at hP
      exact hP
  · unfold inI at hP
    rw [q, Bool.false_and, Bool.false_and] at hP
    exact hP
/-- what is wrong of a place -/
def spotW (r : List Sh) (most : Nat) (a i j : D) : Str := if inI a most then (if inI i (shAt r a.toI).1 && inI j (shAt r a.toI).2 then "none" else "cell") else "grid"
def F__law_spot (K : PySem.W.Frag) : FD := fun ds P => ∃ (r : List Sh) (most : Nat) (a i j : D), ds = [.lst (r.map shD), .int (most : Int), a, i, j] ∧ most ≤ r.length ∧ Jd1 K a ∧ Jd1 K i ∧ Jd1 K j ∧ P (.tup [.str (spotW r most a i j)])
theorem len__law_spot (K : PySem.W.Frag) : ∀ ds P, (F__law_spot K) ds P → ds.length = 5 := by (intro ds P h; first | exact h | (obtain ⟨_, rfl, _⟩ := h; rfl) | (obtain ⟨_, _, rfl, _⟩ := h; rfl) | (obtain ⟨_, _, _, rfl, _⟩ := h; rfl) | (obtain ⟨_, _, _, _, rfl, _⟩ := h; rfl) | (obtain ⟨_, _, _, _, _, rfl, _⟩ := h; rfl) | (obtain ⟨_, _, _, _, _, _, rfl, _⟩ := h; rfl) | (obtain ⟨_, _, _, _, _, _, _, rfl, _⟩ := h; rfl) | (obtain ⟨_, _, _, _, _, _, _, _, rfl, _⟩ := h; rfl) | (obtain ⟨_, _, _, _, _, _, _, _, _, rfl, _⟩ := h; rfl) | (obtain ⟨_, _, _, _, _, _, _, _, _, _, rfl, _⟩ := h; rfl) | (obtain ⟨_, _, _, _, _, _, _, _, _, _, _, rfl, _⟩ := h; rfl) | (obtain ⟨_, _, _, _, _, _, _, _, _, _, _, _, rfl, _⟩ := h; rfl) | (obtain ⟨_, _, _, _, _, _, _, _, _, _, _, _, _, rfl, _⟩ := h; rfl) | (obtain ⟨rfl, _⟩ := h; rfl))
theorem ok__law_spot (T : Txt K mg) : FnOk Pg T.w0 K mg base CX0 3 T.D__law_spot.f T.D__law_spot.d ["shapes", "most", "at", "i", "j"] ((spD K (F__law_spot K))) := by
  have G__law_is_place := ok__law_is_place (Pg := Pg) (base := base) T
  refine T.D__law_spot.F.ok (k := 2) sc__law_spot (spD_len (len__law_spot K)) (fun cdv A outer s H vs Q E hr h => ?_)
  refine ⟨_, (pss_cons (ps_if (pt_not (pt_val (pe_call G__law_is_place (hr.mono (by decide)) (by rfl) T.D__law_is_place.g T.D__law_is_place.F.kp T.D__law_is_place.b .nil pass0 (pa_cons (pv 2) (pa_cons (pv 1) pa_nil)))))
      (pss_one (ps_ret (pe_tup (pa_cons pe_str pa_nil))))
      pss_nil)
    (pss_cons (ps_if (PW.pt (pw_or (pt_not (pt_val (pe_call G__law_is_place (hr.mono (by decide)) (by rfl) T.D__law_is_place.g T.D__law_is_place.F.kp T.D__law_is_place.b .nil pass0 (pa_cons (pv 3) (pa_cons (pe_ix (ix_seqK (K := K) rfl) (pe_ix (ix_seqK (K := K) rfl) (pv 0) (pv 2) (fun _ _ => rfl)) pe_int (fun _ _ => rfl)) pa_nil))))) (pw_or1 (pt_not (pt_val (pe_call G__law_is_place (hr.mono (by decide)) (by rfl) T.D__law_is_place.g T.D__law_is_place.F.kp T.D__law_is_place.b .nil pass0 (pa_cons (pv 4) (pa_cons (pe_ix (ix_seqK (K := K) rfl) (pe_ix (ix_seqK (K := K) rfl) (pv 0) (pv 2) (fun _ _ => rfl)) pe_int (fun _ _ => rfl)) pa_nil))))))))
      (pss_one (ps_ret (pe_tup (pa_cons pe_str pa_nil))))
      pss_nil)
    (pss_one (ps_ret (pe_tup (pa_cons pe_str pa_nil)))))), ?_⟩
  try dsimp only [cxOf, Cx.blk, Cx.nox, Cx.wish]
  (refine body_of h fun W ds P eK f => ?_); subst eK
  obtain ⟨r, most, a, i, j, rfl, hm, ja, ji, jj, hP⟩ := f
  unfold spotW at hP
  walk_at "pd"
  refine ⟨_, _, rfl, ja, ?_⟩
  refine ⟨_, rfl, fun z => ?_, fun z => ?_⟩
  · have z : inI a most = false := by simpa using z
    rw [z] at hP
    walk_at "pd"
    exact hP
  have z : inI a most = true := by simpa using z
  rw [z, if_pos rfl] at hP
  obtain ⟨x, rfl, hx⟩ := inI_of z
  have ex : (r.map shD)[x]? = some (shD (shAt r (x : Int))) := by
    unfold shAt
    rw [Int.toNat_natCast, List.getElem?_map, List.getD_eq_getElem?_getD, List.getElem?_eq_getElem (by omega)]
    rfl
  have hP : P (.tup [.str (if inI i (shAt r (x : Int)).1 && inI j (shAt r (x : Int)).2 then "none" else "cell")]) := hP
  generalize shAt r (x : Int) = sh at ex hP
  unfold shD at ex
  walk_at "pd"
  refine rd_ixL (j := x) (by omega) ex ?_
  walk_at "pd"
  refine ⟨_, _, rfl, ji, ?_⟩
  refine ⟨_, rfl, fun z => ?_, fun z => ?_⟩
  rotate_left
  · have z : inI i sh.1 = false := by simpa using z
    rw [z] at hP
    walk_at "pd"
    exact hP
  have z : inI i sh.1 = true := by simpa using z
  rw [z, Bool.true_and] at hP
  walk_at "pd"
  refine rd_ixL (j := x) (by omega) ex ?_
  walk_at "pd"
  refine ⟨_, _, rfl, jj, ?_⟩
  refine ⟨_, rfl, fun z => ?_, fun z => ?_⟩
  · have z : inI j sh.2 = false := by simpa using z
    rw [z] at hP
    walk_at "pd"
    exact hP
  have z : inI j sh.2 = true := by simpa using z
  rw [z] at hP
  walk_at "pd"
  exact hP
def F__law_some_step {K : PySem.W.Frag} {mg : Str → Option Value} (T : Txt K mg) : FD := fun ds P => ∃ shs : List Sh, ds = [.st, .lst (shs.map shD)] ∧ 1 ≤ shs.length ∧ shs.length ≤ 100 ∧ (∀ p ∈ shs, okSh p) ∧ ∀ x, Gd K x → x.len ≤ 6 → P x
theorem len__law_some_step {K : PySem.W.Frag} {mg : Str → Option Value} (T : Txt K mg) : ∀ ds P, (F__law_some_step T) ds P → ds.length = 2 := by (intro ds P h; first | exact h | (obtain ⟨_, rfl, _⟩ := h; rfl) | (obtain ⟨_, _, rfl, _⟩ := h; rfl) | (obtain ⟨_, _, _, rfl, _⟩ := h; rfl) | (obtain ⟨_, _, _, _, rfl, _⟩ := h; rfl) | (obtain ⟨_, _, _, _, _, rfl, _⟩ := h; rfl) | (obtain ⟨_, _, _, _, _, _, rfl, _⟩ := h; rfl) | (obtain ⟨_, _, _, _, _, _, _, rfl, _⟩ := h; rfl) | (obtain ⟨_, _, _, _, _, _, _, _, rfl, _⟩ := h; rfl) | (obtain ⟨_, _, _, _, _, _, _, _, _, rfl, _⟩ := h; rfl) | (obtain ⟨_, _, _, _, _, _, _, _, _, _, rfl, _⟩ := h; rfl) | (obtain ⟨_, _, _, _, _, _, _, _, _, _, _, rfl, _⟩ := h; rfl) | (obtain ⟨_, _, _, _, _, _, _, _, _, _, _, _, rfl, _⟩ := h; rfl) | (obtain ⟨_, _, _, _, _, _, _, _, _, _, _, _, _, rfl, _⟩ := h; rfl) | (obtain ⟨rfl, _⟩ := h; rfl))
theorem ok__law_some_step (T : Txt K mg) : FnOk Pg T.w0 K mg base CX0 10 T.D__law_some_step.f T.D__law_some_step.d ["state", "shapes"] ((spD K (F__law_some_step T))) := by
  have G__law_draw := ok__law_draw (Pg := Pg) (base := base) T
  have G__law_odd := ok__law_odd (Pg := Pg) (base := base) T
  have G__law_step := ok__law_step (Pg := Pg) (base := base) T
  refine T.D__law_some_step.F.ok (k := 9) sc__law_some_step (spD_len (len__law_some_step T)) (fun cdv A outer s H vs Q E hr h => ?_)
  refine ⟨_, (pss_cons (ps_set (i := 2) sc__law_some_step.nd rfl (by first | exact Or.inl rfl | exact Or.inr rfl) (pe_call G__law_step (hr.mono (by decide)) (by rfl) T.D__law_step.g T.D__law_step.F.kp T.D__law_step.b .nil pass0 (pa_cons (pv 0) (pa_cons (pv 1) pa_nil))))
    (pss_cons (ps_set (i := 3) sc__law_some_step.nd rfl (by first | exact Or.inl rfl | exact Or.inr rfl) (pe_call G__law_draw (hr.mono (by decide)) (by rfl) T.D__law_draw.g T.D__law_draw.F.kp T.D__law_draw.b .nil pass0 (pa_cons (pv 0) (pa_cons pe_int pa_nil))))
    (pss_cons (ps_set (i := 4) sc__law_some_step.nd rfl (by first | exact Or.inl rfl | exact Or.inr rfl) (pe_op (op_plusK (K := K) rfl) pe_int (pe_call G__law_draw (hr.mono (by decide)) (by rfl) T.D__law_draw.g T.D__law_draw.F.kp T.D__law_draw.b .nil pass0 (pa_cons (pv 0) (pa_cons (pe_op op_sub (pe_callB (call_lenK (K := K) rfl) (by rfl) T.n_len (by decide +kernel) (pa_cons (pv 2) pa_nil)) pe_int) pa_nil)))))
    (pss_cons (ps_set (i := 5) sc__law_some_step.nd rfl (by first | exact Or.inl rfl | exact Or.inr rfl) (pe_ix (ix_seqK (K := K) rfl) (pe_lst (pa_cons pe_bl (pa_cons (pe_un un_neg pe_int) (pa_cons (pe_callB (call_lenK (K := K) rfl) (by rfl) T.n_len (by decide +kernel) (pa_cons (pv 1) pa_nil)) (pa_cons pe_non (pa_cons pe_str pa_nil)))))) (pe_call G__law_draw (hr.mono (by decide)) (by rfl) T.D__law_draw.g T.D__law_draw.F.kp T.D__law_draw.b .nil pass0 (pa_cons (pv 0) (pa_cons pe_int pa_nil))) (fun _ _ => rfl)))
    (pss_cons (ps_set (i := 6) sc__law_some_step.nd rfl (by first | exact Or.inl rfl | exact Or.inr rfl) (pe_op (op_plusK (K := K) rfl) (pe_op (op_plusK (K := K) rfl) (pe_slice (sl_tupAK (K := K) rfl) (pv 2) po_none (po_some (pv 4))) (pe_tup (pa_cons (pe_call G__law_draw (hr.mono (by decide)) (by rfl) T.D__law_draw.g T.D__law_draw.F.kp T.D__law_draw.b .nil pass0 (pa_cons (pv 0) (pa_cons (pe_callB (call_lenK (K := K) rfl) (by rfl) T.n_len (by decide +kernel) (pa_cons (pv 1) pa_nil)) pa_nil))) pa_nil))) (pe_slice (sl_tupAK (K := K) rfl) (pv 2) (po_some (pe_op (op_plusK (K := K) rfl) (pv 4) pe_int)) po_none)))
    (pss_one (ps_ret (pe_ix (ix_seqK (K := K) rfl) (pe_lst (pa_cons (pe_call G__law_odd (hr.mono (by decide)) (by rfl) T.D__law_odd.g T.D__law_odd.F.kp T.D__law_odd.b .nil pass0 (pa_cons (pv 0) pa_nil)) (pa_cons (pe_op (op_plusK (K := K) rfl) (pe_op (op_plusK (K := K) rfl) (pe_slice (sl_tupAK (K := K) rfl) (pv 2) po_none (po_some (pv 4))) (pe_tup (pa_cons (pv 5) pa_nil))) (pe_slice (sl_tupAK (K := K) rfl) (pv 2) (po_some (pe_op (op_plusK (K := K) rfl) (pv 4) pe_int)) po_none)) (pa_cons (pv 6) (pa_cons (pe_callTy (call_list_ofK (K := K) rfl) (by rfl) T.n_list (by decide +kernel) (pa_cons (pv 2) pa_nil)) (pa_cons (pv 2) (pa_cons (pv 2) pa_nil))))))) (pv 3) (fun _ _ => rfl))))))))), ?_⟩
  try dsimp only [cxOf, Cx.blk, Cx.nox, Cx.wish]
  (refine body_of h fun W ds P eK f => ?_); subst eK
  obtain ⟨shs, rfl, l1, l2, ok, hP⟩ := f
  walk_at "pd"
  refine ⟨shs, rfl, l1, l2, ok, fun k l q hk hm hi => ?_⟩
  have st : isSt (stD k l) := ⟨k, l, rfl, hk, hi⟩
  obtain ⟨gst, ln⟩ := isSt_gd W.K st
  have l5 : 1 ≤ l.length ∧ l.length ≤ 5 := by
    rcases kind_cases hk with ⟨_, h⟩ | ⟨_, h⟩ | ⟨_, h⟩ | ⟨_, h⟩ | ⟨_, h⟩ | ⟨_, h⟩ | ⟨_, h⟩ <;> omega
  have hm : ∀ e ∈ D.str k :: l.map D.int, Gd W.K e := fun e he => gst.mem he
  unfold stD
  have lz : (D.str k :: l.map D.int).length = l.length + 1 := by rw [List.length_cons, List.length_map]
  generalize D.str k :: l.map D.int = zs at hm lz
  walk_at "pd"
  refine draw_lit (by decide +kernel) fun kk k0 k1 => ?_
  walk_at "pd"
  refine draw_small (by omega) (by omega) fun a a0 a1 => ?_
  obtain ⟨a, rfl⟩ := Int.eq_ofNat_of_zero_le a0
  walk_at "pd"
  refine draw_lit (by decide +kernel) fun w w0 w1 => ?_
  refine rd_ixLm (by omega) (by show w < 5; omega) fun d hd => ?_
  have gd : Gd W.K d := by
    simp only [List.mem_cons, List.not_mem_nil, or_false] at hd
    rcases hd with rfl | rfl | rfl | rfl | rfl
    · exact ⟨by simp only [Jd], by simp only [D.slim]⟩
    · exact .int W.K (by decide)
    · rw [List.length_map]
      exact .int W.K (by omega)
    · exact .non W.K
    · exact ⟨by simp only [Jd], by decide +kernel⟩
  have put : ∀ e, Gd W.K e → Gd W.K (.tup (cutD zs none (some (1 + (a : Int))) ++ [e] ++ cutD zs (some (1 + (a : Int) + 1)) none)) ∧ (D.tup (cutD zs none (some (1 + (a : Int))) ++ [e] ++ cutD zs (some (1 + (a : Int) + 1)) none)).len ≤ 6 := fun e ge => by
    have es : cutD zs none (some (1 + (a : Int))) ++ [e] ++ cutD zs (some (1 + (a : Int) + 1)) none = zs.set (1 + a) e := by
      have := cut_set (xs := zs) (i := 1 + a) (by omega) e
      rw [show ((1 + a : Nat) : Int) = 1 + (a : Int) from by omega] at this
      exact this
    rw [es]
    refine ⟨.tup (fun y hy => ?_) (by rw [List.length_set]; omega), by show (((zs.set (1 + a) e).length : Nat) : Int) ≤ 6; rw [List.length_set]; omega⟩
    rcases List.mem_or_eq_of_mem_set hy with h | rfl
    · exact hm y h
    · exact ge
  have c1 := cutD_len zs none (some (1 + (a : Int)))
  have c2 := cutD_len zs (some (1 + (a : Int) + 1)) none
  walk_at "pd"
  refine ⟨_, rfl, ?_⟩
  walk_at "pd"
  refine ⟨_, rfl, ?_⟩
  walk_at "pd"
  refine draw_small (by rw [List.length_map]; omega) (by rw [List.length_map]; omega) fun u u0 u1 => ?_
  rw [List.length_map] at u1
  walk_at "pd"
  refine rd_plusT (by show _ + 1 ≤ 100000; omega) ?_
  walk_at "pd"
  refine ⟨_, rfl, ?_⟩
  walk_at "pd"
  refine ⟨_, rfl, ?_⟩
  walk_at "pd"
  refine rd_plusT (by rw [List.length_append]; show _ + 1 + _ ≤ 100000; omega) ?_
  walk_at "pd"
  refine ⟨rfl, fun o go lo => ?_⟩
  walk_at "pd"
  refine ⟨_, rfl, ?_⟩
  walk_at "pd"
  refine ⟨_, rfl, ?_⟩
  walk_at "pd"
  refine rd_plusT (by show _ + 1 ≤ 100000; omega) ?_
  walk_at "pd"
  refine ⟨_, rfl, ?_⟩
  walk_at "pd"
  refine ⟨_, rfl, ?_⟩
  walk_at "pd"
  refine rd_plusT (by rw [List.length_append]; show _ + 1 + _ ≤ 100000; omega) ?_
  walk_at "pd"
  refine rc_listT ?_
  walk_at "pd"
  refine rd_ixLm (by omega) (by show kk < 6; omega) fun y hy => ?_
  simp only [List.mem_cons, List.not_mem_nil, or_false] at hy
  have gz : Gd W.K (.tup zs) := .tup hm (by omega)
  have lz6 : (D.tup zs).len ≤ 6 := by show (zs.length : Int) ≤ 6; omega
  rcases hy with rfl | rfl | rfl | rfl | rfl | rfl
  · exact hP _ go (by omega)
  · exact hP _ (put d gd).1 (put d gd).2
  · have gu : Gd W.K (.int u) := .int W.K (by omega)
    exact hP _ (put _ gu).1 (put _ gu).2
  · exact hP _ (.lst hm (by omega)) (by show (-1 : Int) ≤ 6; decide)
  · exact hP _ gz lz6
  · exact hP _ gz lz6
def F__law_some_order {K : PySem.W.Frag} {mg : Str → Option Value} (T : Txt K mg) : FD := fun ds P => ∃ m : Nat, ds = [.st, .int (m : Int)] ∧ 1 ≤ m ∧ m ≤ 20 ∧ ∀ x, Gd K x → x.len ≤ 30 → P x
theorem len__law_some_order {K : PySem.W.Frag} {mg : Str → Option Value} (T : Txt K mg) : ∀ ds P, (F__law_some_order T) ds P → ds.length = 2 := by (intro ds P h; first | exact h | (obtain ⟨_, rfl, _⟩ := h; rfl) | (obtain ⟨_, _, rfl, _⟩ := h; rfl) | (obtain ⟨_, _, _, rfl, _⟩ := h; rfl) | (obtain ⟨_, _, _, _, rfl, _⟩ := h; rfl) | (obtain ⟨_, _, _, _, _, rfl, _⟩ := h; rfl) | (obtain ⟨_, _, _, _, _, _, rfl, _⟩ := h; rfl) | (obtain ⟨_, _, _, _, _, _, _, rfl, _⟩ := h; rfl) | (obtain ⟨_, _, _, _, _, _, _, _, rfl, _⟩ := h; rfl) | (obtain ⟨_, _, _, _, _, _, _, _, _, rfl, _⟩ := h; rfl) | (obtain ⟨_, _, _, _, _, _, _, _, _, _, rfl, _⟩ := h; rfl) | (obtain ⟨_, _, _, _, _, _, _, _, _, _, _, rfl, _⟩ := h; rfl) | (obtain ⟨_, _, _, _, _, _, _, _, _, _, _, _, rfl, _⟩ := h; rfl) | (obtain ⟨_, _, _, _, _, _, _, _, _, _, _, _, _, rfl, _⟩ := h; rfl) | (obtain ⟨rfl, _⟩ := h; rfl))
theorem ok__law_some_order (T : Txt K mg) : FnOk Pg T.w0 K mg base CX0 10 T.D__law_some_order.f T.D__law_some_order.d ["state", "many"] ((spD K (F__law_some_order T))) := by
  have G__law_draw := ok__law_draw (Pg := Pg) (base := base) T
  have G__law_odd := ok__law_odd (Pg := Pg) (base := base) T
  refine T.D__law_some_order.F.ok (k := 9) sc__law_some_order (spD_len (len__law_some_order T)) (fun cdv A outer s H vs Q E hr h => ?_)
  refine ⟨_, (pss_cons (ps_set (i := 2) sc__law_some_order.nd rfl (by first | exact Or.inl rfl | exact Or.inr rfl) (pe_listRg rfl (by rfl) T.n_list (prg_1 (by rfl) T.n_range (pv 1))))
    (pss_cons (ps_set (i := 3) sc__law_some_order.nd rfl (by first | exact Or.inl rfl | exact Or.inr rfl) (pe_lst pa_nil))
    (pss_cons (ps_for PassesOwn.never rfl (pi_range1 (by rfl) T.n_range (pa_cons (pv 1) pa_nil)) (pg_name (i := 4) sc__law_some_order.nd rfl (by first | exact Or.inl rfl | exact Or.inr rfl))
      (pss_one (ps_expr (pe_bm PySem.F.plainAttrs_list PySem.F.slot_list_append PySem.F.type_list_append mt_append (pv 3) (pa_cons (pe_bm PySem.F.plainAttrs_list PySem.F.slot_list_pop PySem.F.type_list_pop mt_popAt (pv 2) (pa_cons (pe_call G__law_draw (hr.mono (by decide)) (by rfl) T.D__law_draw.g T.D__law_draw.F.kp T.D__law_draw.b .nil pass0 (pa_cons (pv 0) (pa_cons (pe_callB (call_lenK (K := K) rfl) (by rfl) T.n_len (by decide +kernel) (pa_cons (pv 2) pa_nil)) pa_nil))) pa_nil)) pa_nil)))))
    (pss_cons (ps_set (i := 5) sc__law_some_order.nd rfl (by first | exact Or.inl rfl | exact Or.inr rfl) (pe_call G__law_draw (hr.mono (by decide)) (by rfl) T.D__law_draw.g T.D__law_draw.F.kp T.D__law_draw.b .nil pass0 (pa_cons (pv 0) (pa_cons (pv 1) pa_nil))))
    (pss_cons (ps_set (i := 6) sc__law_some_order.nd rfl (by first | exact Or.inl rfl | exact Or.inr rfl) (pe_call G__law_draw (hr.mono (by decide)) (by rfl) T.D__law_draw.g T.D__law_draw.F.kp T.D__law_draw.b .nil pass0 (pa_cons (pv 0) (pa_cons pe_int pa_nil))))
    (pss_cons (ps_set (i := 7) sc__law_some_order.nd rfl (by first | exact Or.inl rfl | exact Or.inr rfl) (pe_call G__law_odd (hr.mono (by decide)) (by rfl) T.D__law_odd.g T.D__law_odd.F.kp T.D__law_odd.b .nil pass0 (pa_cons (pv 0) pa_nil)))
    (pss_cons (ps_set (i := 8) sc__law_some_order.nd rfl (by first | exact Or.inl rfl | exact Or.inr rfl) (pe_callTy (call_tuple_ofK (K := K) rfl) (by rfl) T.n_tuple (by decide +kernel) (pa_cons (pv 3) pa_nil)))
    (pss_cons (ps_set (i := 9) sc__law_some_order.nd rfl (by first | exact Or.inl rfl | exact Or.inr rfl) (pe_op (op_plusK (K := K) rfl) (pe_op (op_plusK (K := K) rfl) (pe_slice (sl_tupAK (K := K) rfl) (pv 8) po_none (po_some (pv 5))) (pe_tup (pa_cons (pe_ix (ix_seqK (K := K) rfl) (pe_lst (pa_cons (pv 7) (pa_cons pe_bl (pa_cons (pv 1) (pa_cons (pe_un un_neg pe_int) (pa_cons pe_int pa_nil)))))) (pe_call G__law_draw (hr.mono (by decide)) (by rfl) T.D__law_draw.g T.D__law_draw.F.kp T.D__law_draw.b .nil pass0 (pa_cons (pv 0) (pa_cons pe_int pa_nil))) (fun _ _ => rfl)) pa_nil))) (pe_slice (sl_tupAK (K := K) rfl) (pv 8) (po_some (pe_op (op_plusK (K := K) rfl) (pv 5) pe_int)) po_none)))
    (pss_one (ps_ret (pe_ix (ix_seqK (K := K) rfl) (pe_lst (pa_cons (pv 7) (pa_cons (pv 3) (pa_cons (pe_slice (sl_tupAK (K := K) rfl) (pv 8) (po_some pe_int) po_none) (pa_cons (pe_op (op_plusK (K := K) rfl) (pv 8) (pe_tup (pa_cons (pv 1) pa_nil))) (pa_cons (pe_op (op_plusK (K := K) rfl) (pv 8) (pe_tup (pa_cons pe_int pa_nil))) (pa_cons (pv 9) (pa_cons (pv 9) (pa_cons (pv 8) pa_nil))))))))) (pv 6) (fun _ _ => rfl)))))))))))), ?_⟩
  try dsimp only [cxOf, Cx.blk, Cx.nox, Cx.wish]
  refine body_ofO h fun W ds P eK f => ?_
  subst eK
  obtain ⟨m, rfl, m1, m20, hP⟩ := f
  refine so_seq (so_asgF (ev_lstRg (ev_var rfl ⟨m, rfl, by omega, fun pl fl => ?_⟩)))
  refine so_seq (so_new (ea_nil ⟨by decide, fun pf ff => ?_⟩))
  have nq : pf ≠ pl := fun e => ff _ List.mem_cons_self e.symm
  refine so_seq (so_for (it_rng1 ?_))
  walk_at "pd"
  refine ⟨_, rfl, by omega, by omega, fun k ω δ => ∃ (ls fs : List Int) (x4 : Option D), ω = [(pf, fs.map D.int), (pl, ls.map D.int)] ∧ fs.length = k ∧ ls.length + k = m ∧ (∀ i ∈ ls, 0 ≤ i ∧ i < m) ∧ (∀ i ∈ fs, 0 ≤ i ∧ i < m) ∧ δ = [some .st, some (.int (m : Int)), some (.obj pl), some (.obj pf), x4, none, none, none, none, none], ⟨rgI m, [], none, by rw [natD_rgI]; rfl, rfl, by rw [rgI_len]; omega, fun i hi => rgI_mem.mp hi, (fun i hi => by cases hi), rfl⟩, fun k d ω δ hd hI => ?_, fun ω δ hI => ?_⟩
  · obtain ⟨ls, fs, x4, rfl, lf, ll, hl, hf, rfl⟩ := hI
    obtain ⟨hk, rfl⟩ := rngD_get hd
    have h1 : Has [(pf, fs.map D.int), (pl, ls.map D.int)] pf (fs.map D.int) := ⟨List.mem_cons_self, fun ds hx => by
      rcases List.mem_cons.mp hx with e | e
      · cases e; rfl
      · cases List.mem_singleton.mp e; exact absurd rfl nq⟩
    have h2 : Has [(pf, fs.map D.int), (pl, ls.map D.int)] pl (ls.map D.int) := ⟨List.mem_cons_of_mem _ List.mem_cons_self, fun ds hx => by
      rcases List.mem_cons.mp hx with e | e
      · cases e; exact absurd rfl nq
      · cases List.mem_singleton.mp e; rfl⟩
    refine ⟨_, gd_name ?_⟩
    refine so_appPop (i := 3) (j := 2) rfl rfl h1 h2 nq (by rw [List.length_map]; omega) (evl_put (a := pl) 2 rfl h2.1 (evl_ev ?_))
    walk_at "pd"
    refine draw_small (by rw [List.length_map]; omega) (by rw [List.length_map]; omega) fun u u0 u1 => ?_
    rw [List.length_map] at u1
    obtain ⟨u, rfl⟩ := Int.eq_ofNat_of_zero_le u0
    have ul : u < ls.length := by omega
    have eu := List.getElem?_eq_getElem ul
    have mu := hl _ (List.getElem_mem ul)
    generalize ls[u] = y at eu mu
    refine ⟨u, y, rfl, by omega, by rw [List.getElem?_map, eu]; rfl, ls.eraseIdx u, fs ++ [y], some (.int (0 + (k : Int))), ?_, by rw [List.length_append, lf]; rfl, by rw [List.length_eraseIdx, if_pos ul]; omega, fun i hi => hl i (List.mem_of_mem_eraseIdx hi), fun i hi => ?_, rfl⟩
    · have er : (ls.map D.int).eraseIdx u = (ls.eraseIdx u).map D.int := by
        simp [List.eraseIdx_eq_take_drop_succ, List.map_take, List.map_drop]
      simp [putO, nq, nq.symm, er]
    · rcases List.mem_append.mp hi with h | h
      · exact hf i h
      · rw [List.mem_singleton.mp h]; exact mu
  obtain ⟨ls, fs, x4, rfl, lf, ll, hl, hf, rfl⟩ := hI
  rw [rngD_length, Int.toNat_natCast] at lf
  have gf : ∀ e ∈ fs.map D.int, Gd W.K e := fun e he => by
    obtain ⟨i, hi, rfl⟩ := List.mem_map.mp he
    have := hf i hi
    exact .int W.K (by omega)
  have lfm : (fs.map D.int).length = m := by rw [List.length_map, lf]
  have nf : D.nrefs (fs.map D.int) = true := nrefs_of fun e he => by
    obtain ⟨i, hi, rfl⟩ := List.mem_map.mp he
    rfl
  generalize fs.map D.int = zs at gf lfm nf
  refine so_seq (so_lift ?_)
  walk_at "pd"
  refine draw_small (by omega) (by omega) fun a a0 a1 => ?_
  obtain ⟨a, rfl⟩ := Int.eq_ofNat_of_zero_le a0
  refine so_seq (so_lift ?_)
  walk_at "pd"
  refine draw_lit (by decide +kernel) fun kk k0 k1 => ?_
  refine so_seq (so_lift ?_)
  walk_at "pd"
  refine ⟨rfl, fun o go lo => ?_⟩
  refine so_seq (so_asgL (evl_put (a := pf) 3 rfl List.mem_cons_self (evl_ev ?_)))
  walk_at "pd"
  refine ⟨by simpa [D.nref] using nf, ?_⟩
  refine so_seq (so_lift ?_)
  walk_at "pd"
  refine ⟨_, rfl, ?_⟩
  walk_at "pd"
  refine ⟨_, rfl, ?_⟩
  walk_at "pd"
  refine draw_lit (by decide +kernel) fun w w0 w1 => ?_
  refine rd_ixLm (by omega) (by show w < 5; omega) fun d hd => ?_
  have gd : Gd W.K d := by
    simp only [List.mem_cons, List.not_mem_nil, or_false] at hd
    rcases hd with rfl | rfl | rfl | rfl | rfl
    · exact go
    · exact ⟨by simp only [Jd], by simp only [D.slim]⟩
    · exact .int W.K (by omega)
    · exact .int W.K (by decide)
    · exact .int W.K (by decide)
  have c1 := cutD_len zs none (some (a : Int))
  have c2 := cutD_len zs (some ((a : Int) + 1)) none
  walk_at "pd"
  refine rd_plusT (by show _ + 1 ≤ 100000; omega) ?_
  walk_at "pd"
  refine ⟨_, rfl, ?_⟩
  walk_at "pd"
  refine ⟨_, rfl, ?_⟩
  walk_at "pd"
  refine rd_plusT (by rw [List.length_append]; show _ + 1 + _ ≤ 100000; omega) ?_
  have es : cutD zs none (some (a : Int)) ++ [d] ++ cutD zs (some ((a : Int) + 1)) none = zs.set a d := cut_set (by omega) d
  rw [es]
  have gc : Gd W.K (.tup (zs.set a d)) := .tup (fun y hy => by
    rcases List.mem_or_eq_of_mem_set hy with h | rfl
    · exact gf y h
    · exact gd) (by rw [List.length_set]; omega)
  have lc : (D.tup (zs.set a d)).len ≤ 30 := by show (((zs.set a d).length : Nat) : Int) ≤ 30; rw [List.length_set]; omega
  refine so_retAll (evl_put (a := pf) 3 rfl List.mem_cons_self (evl_ev ?_))
  walk_at "pd"
  refine ⟨_, rfl, ?_⟩
  walk_at "pd"
  refine ⟨_, rfl, ?_⟩
  walk_at "pd"
  refine rd_plusT (by show _ + 1 ≤ 100000; omega) ?_
  walk_at "pd"
  refine rd_plusT (by show _ + 1 ≤ 100000; omega) ?_
  walk_at "pd"
  refine rd_ixLm (by omega) (by show kk < 8; omega) fun y hy => ?_
  simp only [List.mem_cons, List.not_mem_nil, or_false] at hy
  have gz : Gd W.K (.tup zs) := .tup gf (by omega)
  have lz : (D.tup zs).len ≤ 30 := by show (zs.length : Int) ≤ 30; omega
  have ap : ∀ e, Gd W.K e → Gd W.K (.tup (zs ++ [e])) ∧ (D.tup (zs ++ [e])).len ≤ 30 := fun e ge => ⟨.tup (fun y hy => by
    rcases List.mem_append.mp hy with h | h
    · exact gf y h
    · rw [List.mem_singleton.mp h]; exact ge) (by rw [List.length_append]; show _ + 1 ≤ 1000; omega), by show (((zs ++ [e]).length : Nat) : Int) ≤ 30; rw [List.length_append]; show ((zs.length + 1 : Nat) : Int) ≤ 30; omega⟩
  have c3 := cutD_len zs (some 1) none
  rcases hy with rfl | rfl | rfl | rfl | rfl | rfl | rfl | rfl
  · exact hP _ go (by omega)
  · exact hP _ (.lst gf (by omega)) (by show (-1 : Int) ≤ 30; decide)
  · exact hP _ (.tup (fun y hy => gf y (cutD_mem hy)) (by omega)) (by show (((cutD zs (some 1) none).length : Nat) : Int) ≤ 30; omega)
  · exact hP _ (ap _ (.int W.K (by omega))).1 (ap _ (.int W.K (by omega))).2
  · exact hP _ (ap _ (.int W.K (by decide))).1 (ap _ (.int W.K (by decide))).2
  · exact hP _ gc lc
  · exact hP _ gc lc
  · exact hP _ gz lz
def F__shape_of_two : FD := fun ds P => ∃ (k : Str) (a b : Sh), ds = [.str k, shD a, shD b] ∧ (D.str k).fine = true ∧ P (optSh (twoD k a b))
theorem len__shape_of_two : ∀ ds P, F__shape_of_two ds P → ds.length = 3 := by (intro ds P h; first | exact h | (obtain ⟨_, rfl, _⟩ := h; rfl) | (obtain ⟨_, _, rfl, _⟩ := h; rfl) | (obtain ⟨_, _, _, rfl, _⟩ := h; rfl) | (obtain ⟨_, _, _, _, rfl, _⟩ := h; rfl) | (obtain ⟨_, _, _, _, _, rfl, _⟩ := h; rfl) | (obtain ⟨_, _, _, _, _, _, rfl, _⟩ := h; rfl) | (obtain ⟨_, _, _, _, _, _, _, rfl, _⟩ := h; rfl) | (obtain ⟨_, _, _, _, _, _, _, _, rfl, _⟩ := h; rfl) | (obtain ⟨_, _, _, _, _, _, _, _, _, rfl, _⟩ := h; rfl) | (obtain ⟨_, _, _, _, _, _, _, _, _, _, rfl, _⟩ := h; rfl) | (obtain ⟨_, _, _, _, _, _, _, _, _, _, _, rfl, _⟩ := h; rfl) | (obtain ⟨_, _, _, _, _, _, _, _, _, _, _, _, rfl, _⟩ := h; rfl) | (obtain ⟨_, _, _, _, _, _, _, _, _, _, _, _, _, rfl, _⟩ := h; rfl) | (obtain ⟨rfl, _⟩ := h; rfl))
theorem ok__shape_of_two (T : Txt K mg) : FnOk Pg T.w0 K mg base CX0 1 T.D__shape_of_two.f T.D__shape_of_two.d ["kind", "one", "other"] ((spD K F__shape_of_two)) := by
  refine T.D__shape_of_two.F.ok (k := 0) sc__shape_of_two (spD_len (len__shape_of_two)) (fun cdv A outer s H vs Q E hr h => ?_)
  refine ⟨_, (pss_cons (ps_if (pt_cmpR (op_eqDK (K := K) rfl (hr_u hr)) (pv 0) pe_str (nomark _))
      (pss_one (ps_ret (pe_ifExp (pt_cmpR (op_eqDK (K := K) rfl (hr_u hr)) (pv 1) (pv 2) (nomark _)) (pv 1) pe_non)))
      pss_nil)
    (pss_cons (ps_if (pt_cmpR (op_eqDK (K := K) rfl (hr_u hr)) (pv 0) pe_str (nomark _))
      (pss_one (ps_ret (pe_ifExp (pt_cmpR (op_eqDK (K := K) rfl (hr_u hr)) (pe_ix (ix_seqK (K := K) rfl) (pv 1) pe_int (fun _ _ => rfl)) (pe_ix (ix_seqK (K := K) rfl) (pv 2) pe_int (fun _ _ => rfl)) (nomark _)) (pe_tup (pa_cons (pe_ix (ix_seqK (K := K) rfl) (pv 1) pe_int (fun _ _ => rfl)) (pa_cons (pe_ix (ix_seqK (K := K) rfl) (pv 2) pe_int (fun _ _ => rfl)) pa_nil))) pe_non)))
      pss_nil)
    (pss_cons (ps_if (pt_cmpR (op_eqDK (K := K) rfl (hr_u hr)) (pv 0) pe_str (nomark _))
      (pss_one (ps_ret (pe_ifExp (pt_cmpR (op_eqDK (K := K) rfl (hr_u hr)) (pe_ix (ix_seqK (K := K) rfl) (pv 1) pe_int (fun _ _ => rfl)) (pe_ix (ix_seqK (K := K) rfl) (pv 2) pe_int (fun _ _ => rfl)) (nomark _)) (pe_tup (pa_cons (pe_ix (ix_seqK (K := K) rfl) (pv 1) pe_int (fun _ _ => rfl)) (pa_cons (pe_op (op_plusK (K := K) rfl) (pe_ix (ix_seqK (K := K) rfl) (pv 1) pe_int (fun _ _ => rfl)) (pe_ix (ix_seqK (K := K) rfl) (pv 2) pe_int (fun _ _ => rfl))) pa_nil))) pe_non)))
      pss_nil)
    (pss_one (ps_ret (pe_ifExp (pt_cmpR (op_eqDK (K := K) rfl (hr_u hr)) (pe_ix (ix_seqK (K := K) rfl) (pv 1) pe_int (fun _ _ => rfl)) (pe_ix (ix_seqK (K := K) rfl) (pv 2) pe_int (fun _ _ => rfl)) (nomark _)) (pe_tup (pa_cons (pe_op (op_plusK (K := K) rfl) (pe_ix (ix_seqK (K := K) rfl) (pv 1) pe_int (fun _ _ => rfl)) (pe_ix (ix_seqK (K := K) rfl) (pv 2) pe_int (fun _ _ => rfl))) (pa_cons (pe_ix (ix_seqK (K := K) rfl) (pv 1) pe_int (fun _ _ => rfl)) pa_nil))) pe_non)))))), ?_⟩
  try dsimp only [cxOf, Cx.blk, Cx.nox, Cx.wish]
  (refine body_of h fun W ds P eK f => ?_); subst eK
  obtain ⟨k, ⟨a, b⟩, ⟨c, d⟩, rfl, hk, hP⟩ := f
  simp only [shD] at *
  unfold twoD at hP
  walk_at "pd"
  refine ⟨fun z => ?_, fun z => ?_⟩
  · rw [if_pos (of_decide_eq_true z)] at hP
    walk_at "pd"
    refine ⟨fun z => ?_, fun z => ?_⟩
    · rw [if_pos (of_decide_eq_true z)] at hP
      walk_at "pd"
      exact hP
    · rw [if_neg (of_decide_eq_false z)] at hP
      walk_at "pd"
      exact hP
  rw [if_neg (of_decide_eq_false z)] at hP
  walk_at "pd"
  refine ⟨fun z => ?_, fun z => ?_⟩
  · rw [if_pos (of_decide_eq_true z)] at hP
    walk_at "pd"
    refine ⟨fun z => ?_, fun z => ?_⟩
    · rw [if_pos (of_decide_eq_true z)] at hP
      walk_at "pd"
      exact hP
    · rw [if_neg (of_decide_eq_false z)] at hP
      walk_at "pd"
      exact hP
  rw [if_neg (of_decide_eq_false z)] at hP
  walk_at "pd"
  refine ⟨fun z => ?_, fun z => ?_⟩
  · rw [if_pos (of_decide_eq_true z)] at hP
    walk_at "pd"
    refine ⟨fun z => ?_, fun z => ?_⟩
    · rw [if_pos (of_decide_eq_true z)] at hP
      walk_at "pd"
      exact hP
    · rw [if_neg (of_decide_eq_false z)] at hP
      walk_at "pd"
      exact hP
  rw [if_neg (of_decide_eq_false z)] at hP
  walk_at "pd"
  refine ⟨fun z => ?_, fun z => ?_⟩
  · rw [if_pos (of_decide_eq_true z)] at hP
    walk_at "pd"
    exact hP
  · rw [if_neg (of_decide_eq_false z)] at hP
    walk_at "pd"
    exact hP
def F__piece_shape : FD := fun ds P => ∃ (k : Str) (g i j r c a b : Int), ds = [stD k [g, i, j, r, c], .int a, .int b] ∧ P (optSh (pieceD i j r c (a, b)))
theorem len__piece_shape : ∀ ds P, F__piece_shape ds P → ds.length = 3 := by (intro ds P h; first | exact h | (obtain ⟨_, rfl, _⟩ := h; rfl) | (obtain ⟨_, _, rfl, _⟩ := h; rfl) | (obtain ⟨_, _, _, rfl, _⟩ := h; rfl) | (obtain ⟨_, _, _, _, rfl, _⟩ := h; rfl) | (obtain ⟨_, _, _, _, _, rfl, _⟩ := h; rfl) | (obtain ⟨_, _, _, _, _, _, rfl, _⟩ := h; rfl) | (obtain ⟨_, _, _, _, _, _, _, rfl, _⟩ := h; rfl) | (obtain ⟨_, _, _, _, _, _, _, _, rfl, _⟩ := h; rfl) | (obtain ⟨_, _, _, _, _, _, _, _, _, rfl, _⟩ := h; rfl) | (obtain ⟨_, _, _, _, _, _, _, _, _, _, rfl, _⟩ := h; rfl) | (obtain ⟨_, _, _, _, _, _, _, _, _, _, _, rfl, _⟩ := h; rfl) | (obtain ⟨_, _, _, _, _, _, _, _, _, _, _, _, rfl, _⟩ := h; rfl) | (obtain ⟨_, _, _, _, _, _, _, _, _, _, _, _, _, rfl, _⟩ := h; rfl) | (obtain ⟨rfl, _⟩ := h; rfl))
theorem ok__piece_shape (T : Txt K mg) : FnOk Pg T.w0 K mg base CX0 1 T.D__piece_shape.f T.D__piece_shape.d ["step", "rows", "columns"] ((spD K F__piece_shape)) := by
  refine T.D__piece_shape.F.ok (k := 0) sc__piece_shape (spD_len (len__piece_shape)) (fun cdv A outer s H vs Q E hr h => ?_)
  refine ⟨_, (pss_cons (ps_asg (pe_slice (sl_tupAK (K := K) rfl) (pv 0) (po_some pe_int) po_none) (by exact (pg_tupK (K := K) (n := 4) rfl rfl (pgs_cons (pg_name (i := 3) sc__piece_shape.nd rfl (by first | exact Or.inl rfl | exact Or.inr rfl)) (pgs_cons (pg_name (i := 4) sc__piece_shape.nd rfl (by first | exact Or.inl rfl | exact Or.inr rfl)) (pgs_cons (pg_name (i := 5) sc__piece_shape.nd rfl (by first | exact Or.inl rfl | exact Or.inr rfl)) (pgs_cons (pg_name (i := 6) sc__piece_shape.nd rfl (by first | exact Or.inl rfl | exact Or.inr rfl)) pgs_nil)))))))
    (pss_cons (ps_if (PW.pt (pw_or (pt_cmpR op_lt (pe_callB (call_min2 rfl) (by rfl) T.n_min (by decide +kernel) (pa_cons (pv 3) (pa_cons (pv 4) pa_nil))) pe_int (nomark _)) (pw_or1 (pt_cmpR op_lt (pe_callB (call_min2 rfl) (by rfl) T.n_min (by decide +kernel) (pa_cons (pv 5) (pa_cons (pv 6) pa_nil))) pe_int (nomark _)))))
      (pss_one (ps_ret pe_non))
      pss_nil)
    (pss_cons (ps_if (PW.pt (pw_or (pt_cmpR op_gt (pe_op (op_plusK (K := K) rfl) (pv 3) (pv 5)) (pv 1) (nomark _)) (pw_or1 (pt_cmpR op_gt (pe_op (op_plusK (K := K) rfl) (pv 4) (pv 6)) (pv 2) (nomark _)))))
      (pss_one (ps_ret pe_non))
      pss_nil)
    (pss_one (ps_ret (pe_tup (pa_cons (pv 5) (pa_cons (pv 6) pa_nil)))))))), ?_⟩
  try dsimp only [cxOf, Cx.blk, Cx.nox, Cx.wish]
  (refine body_of h fun W ds P eK f => ?_); subst eK
  obtain ⟨k, g, i, j, r, c, a, b, rfl, hP⟩ := f
  unfold pieceD at hP
  unfold stD at *
  walk_at "pd"
  refine sd_asgG (js := [3, 4, 5, 6]) ?_
  walk_at "pd"
  refine ⟨_, rfl, ?_⟩
  walk_at "pd"
  refine ⟨_, rfl, ?_⟩
  walk_at "pd"
  rw [List.map_cons, cut2]
  refine gd_tup4 (gd_name (gd_name (gd_name (gd_name ?_))))
  walk_at "pd"
  have no : min i j < 0 ∨ min r c < 1 → P .non := fun h => by
    rw [if_pos h] at hP
    exact hP
  refine ⟨fun z => ?_, fun z => ?_⟩
  · have z1 := of_decide_eq_false z
    walk_at "pd"
    refine ⟨fun z => ?_, fun z => ?_⟩
    · walk_at "pd"
      exact no (.inr (of_decide_eq_true z))
    have z2 := of_decide_eq_false z
    rw [if_neg (fun h => h.elim z1 z2)] at hP
    walk_at "pd"
    refine ⟨fun z => ?_, fun z => ?_⟩
    · have z3 := of_decide_eq_false z
      walk_at "pd"
      refine ⟨fun z => ?_, fun z => ?_⟩
      · rw [if_pos (.inr (of_decide_eq_true z))] at hP
        walk_at "pd"
        exact hP
      · rw [if_neg (fun h => h.elim z3 (of_decide_eq_false z))] at hP
        walk_at "pd"
        exact hP
    · rw [if_pos (.inl (of_decide_eq_true z))] at hP
      walk_at "pd"
      exact hP
  · walk_at "pd"
    exact no (.inl (of_decide_eq_true z))
def F__fitting_shape : FD := fun ds P => ∃ (k : Str) (l : List Int) (one other : Sh) (more : List Sh), ds = [stD k l, .lst ((one :: more).map shD)] ∧ kindLen.lookup k = some ((l.length : Int) + 1) ∧ (kindLen.lookup k = some 3 → ∃ r, more = other :: r) ∧ P (optSh (fitD k l one other))
theorem len__fitting_shape : ∀ ds P, F__fitting_shape ds P → ds.length = 2 := by (intro ds P h; first | exact h | (obtain ⟨_, rfl, _⟩ := h; rfl) | (obtain ⟨_, _, rfl, _⟩ := h; rfl) | (obtain ⟨_, _, _, rfl, _⟩ := h; rfl) | (obtain ⟨_, _, _, _, rfl, _⟩ := h; rfl) | (obtain ⟨_, _, _, _, _, rfl, _⟩ := h; rfl) | (obtain ⟨_, _, _, _, _, _, rfl, _⟩ := h; rfl) | (obtain ⟨_, _, _, _, _, _, _, rfl, _⟩ := h; rfl) | (obtain ⟨_, _, _, _, _, _, _, _, rfl, _⟩ := h; rfl) | (obtain ⟨_, _, _, _, _, _, _, _, _, rfl, _⟩ := h; rfl) | (obtain ⟨_, _, _, _, _, _, _, _, _, _, rfl, _⟩ := h; rfl) | (obtain ⟨_, _, _, _, _, _, _, _, _, _, _, rfl, _⟩ := h; rfl) | (obtain ⟨_, _, _, _, _, _, _, _, _, _, _, _, rfl, _⟩ := h; rfl) | (obtain ⟨_, _, _, _, _, _, _, _, _, _, _, _, _, rfl, _⟩ := h; rfl) | (obtain ⟨rfl, _⟩ := h; rfl))
theorem ok__fitting_shape (T : Txt K mg) : FnOk Pg T.w0 K mg base CX0 2 T.D__fitting_shape.f T.D__fitting_shape.d ["step", "shapes"] ((spD K F__fitting_shape)) := by
  have G__piece_shape := ok__piece_shape (Pg := Pg) (base := base) T
  have G__shape_of_two := ok__shape_of_two (Pg := Pg) (base := base) T
  refine T.D__fitting_shape.F.ok (k := 1) sc__fitting_shape (spD_len (len__fitting_shape)) (fun cdv A outer s H vs Q E hr h => ?_)
  refine ⟨_, (pss_cons (ps_asg (pe_ix (ix_seqK (K := K) rfl) (pv 1) pe_int (fun _ _ => rfl)) (by exact (pg_tupK (K := K) (n := 2) rfl rfl (pgs_cons (pg_name (i := 2) sc__fitting_shape.nd rfl (by first | exact Or.inl rfl | exact Or.inr rfl)) (pgs_cons (pg_name (i := 3) sc__fitting_shape.nd rfl (by first | exact Or.inl rfl | exact Or.inr rfl)) pgs_nil)))))
    (pss_cons (ps_if (pt_cmpR (op_eqDK (K := K) rfl (hr_u hr)) (pe_ix (ix_seqK (K := K) rfl) (pv 0) pe_int (fun _ _ => rfl)) pe_str (nomark _))
      (pss_one (ps_ret (pe_tup (pa_cons (pv 3) (pa_cons (pv 2) pa_nil)))))
      pss_nil)
    (pss_cons (ps_if (pt_cmpR (op_eqDK (K := K) rfl (hr_u hr)) (pe_ix (ix_seqK (K := K) rfl) (pv 0) pe_int (fun _ _ => rfl)) pe_str (nomark _))
      (pss_one (ps_ret (pe_ifExp (pt_cmpR (op_eqDK (K := K) rfl (hr_u hr)) (pv 2) (pv 3) (nomark _)) (pe_ix (ix_seqK (K := K) rfl) (pv 1) pe_int (fun _ _ => rfl)) pe_non)))
      pss_nil)
    (pss_cons (ps_if (pt_cmpR (op_eqDK (K := K) rfl (hr_u hr)) (pe_ix (ix_seqK (K := K) rfl) (pv 0) pe_int (fun _ _ => rfl)) pe_str (nomark _))
      (pss_one (ps_ret (pe_call G__piece_shape (hr.mono (by decide)) (by rfl) T.D__piece_shape.g T.D__piece_shape.F.kp T.D__piece_shape.b .nil pass0 (pa_cons (pv 0) (pa_cons (pv 2) (pa_cons (pv 3) pa_nil))))))
      pss_nil)
    (pss_one (ps_ret (pe_call G__shape_of_two (hr.mono (by decide)) (by rfl) T.D__shape_of_two.g T.D__shape_of_two.F.kp T.D__shape_of_two.b .nil pass0 (pa_cons (pe_ix (ix_seqK (K := K) rfl) (pv 0) pe_int (fun _ _ => rfl)) (pa_cons (pe_ix (ix_seqK (K := K) rfl) (pv 1) pe_int (fun _ _ => rfl)) (pa_cons (pe_ix (ix_seqK (K := K) rfl) (pv 1) pe_int (fun _ _ => rfl)) pa_nil)))))))))), ?_⟩
  try dsimp only [cxOf, Cx.blk, Cx.nox, Cx.wish]
  (refine body_of h fun W ds P eK f => ?_); subst eK
  obtain ⟨k, l, ⟨a, b⟩, ⟨c, d⟩, more, rfl, hk, hm, hP⟩ := f
  have kf := kind_fine hk
  unfold fitD at hP
  unfold stD at *
  rw [List.map_cons]
  simp only [shD] at hP ⊢
  walk_at "pd"
  refine sd_asgG (js := [2, 3]) ?_
  walk_at "pd"
  refine gd_tup2 (gd_name (gd_name ?_))
  walk_at "pd"
  refine ⟨fun z => ?_, fun z => ?_⟩
  · rw [if_pos (of_decide_eq_true z)] at hP
    walk_at "pd"
    exact hP
  have z1 := of_decide_eq_false z
  rw [if_neg z1] at hP
  walk_at "pd"
  refine ⟨fun z => ?_, fun z => ?_⟩
  · rw [if_pos (of_decide_eq_true z)] at hP
    walk_at "pd"
    refine ⟨fun z => ?_, fun z => ?_⟩
    · rw [if_pos (of_decide_eq_true z)] at hP
      walk_at "pd"
      exact hP
    · rw [if_neg (of_decide_eq_false z)] at hP
      walk_at "pd"
      exact hP
  have z2 := of_decide_eq_false z
  rw [if_neg z2] at hP
  walk_at "pd"
  refine ⟨fun z => ?_, fun z => ?_⟩
  · have z3 := of_decide_eq_true z
    rw [if_pos z3] at hP
    subst z3
    have l5 : l.length = 5 := by
      have : kindLen.lookup ("piece" : Str) = some 6 := by decide +kernel
      rw [this] at hk
      have := Option.some.inj hk
      omega
    obtain _ | ⟨g, _ | ⟨i, _ | ⟨j, _ | ⟨r, _ | ⟨e, _ | ⟨_, _⟩⟩⟩⟩⟩⟩ := l <;> try (simp at l5; done)
    walk_at "pd"
    exact ⟨_, g, i, j, r, e, a, b, rfl, hP⟩
  have z3 := of_decide_eq_false z
  rw [if_neg z3] at hP
  have h3 : kindLen.lookup k = some 3 := by
    rcases kind_cases hk with ⟨rfl, _⟩ | ⟨rfl, _⟩ | ⟨rfl, _⟩ | ⟨rfl, _⟩ | ⟨rfl, _⟩ | ⟨rfl, _⟩ | ⟨rfl, _⟩ <;> first | rfl | exact absurd rfl z1 | exact absurd rfl z2 | exact absurd rfl z3
  obtain ⟨r, rfl⟩ := hm h3
  rw [List.map_cons]
  simp only [shD]
  walk_at "pd"
  exact ⟨k, (a, b), (c, d), rfl, kf, hP⟩
def F_is_index (K : PySem.W.Frag) : FD := fun ds P => ∃ (x : D) (n : Int), ds = [x, .int n] ∧ Jd1 K x ∧ P (.bl (x.isInt && decide (0 ≤ x.toI) && decide (x.toI < n)))
theorem len_is_index (K : PySem.W.Frag) : ∀ ds P, (F_is_index K) ds P → ds.length = 2 := by (intro ds P h; first | exact h | (obtain ⟨_, rfl, _⟩ := h; rfl) | (obtain ⟨_, _, rfl, _⟩ := h; rfl) | (obtain ⟨_, _, _, rfl, _⟩ := h; rfl) | (obtain ⟨_, _, _, _, rfl, _⟩ := h; rfl) | (obtain ⟨_, _, _, _, _, rfl, _⟩ := h; rfl) | (obtain ⟨_, _, _, _, _, _, rfl, _⟩ := h; rfl) | (obtain ⟨_, _, _, _, _, _, _, rfl, _⟩ := h; rfl) | (obtain ⟨_, _, _, _, _, _, _, _, rfl, _⟩ := h; rfl) | (obtain ⟨_, _, _, _, _, _, _, _, _, rfl, _⟩ := h; rfl) | (obtain ⟨_, _, _, _, _, _, _, _, _, _, rfl, _⟩ := h; rfl) | (obtain ⟨_, _, _, _, _, _, _, _, _, _, _, rfl, _⟩ := h; rfl) | (obtain ⟨_, _, _, _, _, _, _, _, _, _, _, _, rfl, _⟩ := h; rfl) | (obtain ⟨_, _, _, _, _, _, _, _, _, _, _, _, _, rfl, _⟩ := h; rfl) | (obtain ⟨rfl, _⟩ := h; rfl))
theorem ok_is_index (T : Txt K mg) : FnOk Pg T.w0 K mg base CX0 2 T.D_is_index.f T.D_is_index.d ["thing", "many"] ((spD K (F_is_index K))) := by
  have G_is_whole := ok_is_whole (Pg := Pg) (base := base) T
  refine T.D_is_index.F.ok (k := 1) sc_is_index (spD_len (len_is_index K)) (fun cdv A outer s H vs Q E hr h => ?_)
  refine ⟨_, (pss_one (ps_ret (pe_and (pe_call G_is_whole (hr.mono (by decide)) (by rfl) T.D_is_whole.g T.D_is_whole.F.kp T.D_is_whole.b .nil pass0 (pa_cons (pv 0) pa_nil)) (pe_one (pe_chain op_le op_lt pe_int (pv 0) (pv 1)))))), ?_⟩
  try dsimp only [cxOf, Cx.blk, Cx.nox, Cx.wish]
  (refine body_of h fun W ds P eK f => ?_); subst eK
  obtain ⟨x, n, rfl, hx, hP⟩ := f
  walk_at "pd"
  refine ⟨x, rfl, hx, ?_⟩
  walk_at "pd"
  refine ⟨fun h1 => ?_, fun h1 => ?_⟩
  · obtain ⟨i, rfl⟩ := isInt_of h1
    have hP : P (.bl (true && decide (0 ≤ i) && decide (i < n))) := hP
    rw [Bool.true_and] at hP
    walk_at "pd"
    refine ⟨fun h2 => ?_, fun h2 => ?_⟩
    · rw [h2, Bool.true_and] at hP
      walk_at "pd"
      exact hP
    · rw [h2, Bool.false_and] at hP
      exact hP
  · rw [h1, Bool.false_and, Bool.false_and] at hP
    exact hP
def F_sources : FD := fun ds P => ∃ (k : Str) (l : List Int) (n : Int), ds = [stD k l] ∧ kindLen.lookup k = some n ∧ P (.tup ((srcs k l).map D.int))
theorem len_sources : ∀ ds P, F_sources ds P → ds.length = 1 := by (intro ds P h; first | exact h | (obtain ⟨_, rfl, _⟩ := h; rfl) | (obtain ⟨_, _, rfl, _⟩ := h; rfl) | (obtain ⟨_, _, _, rfl, _⟩ := h; rfl) | (obtain ⟨_, _, _, _, rfl, _⟩ := h; rfl) | (obtain ⟨_, _, _, _, _, rfl, _⟩ := h; rfl) | (obtain ⟨_, _, _, _, _, _, rfl, _⟩ := h; rfl) | (obtain ⟨_, _, _, _, _, _, _, rfl, _⟩ := h; rfl) | (obtain ⟨_, _, _, _, _, _, _, _, rfl, _⟩ := h; rfl) | (obtain ⟨_, _, _, _, _, _, _, _, _, rfl, _⟩ := h; rfl) | (obtain ⟨_, _, _, _, _, _, _, _, _, _, rfl, _⟩ := h; rfl) | (obtain ⟨_, _, _, _, _, _, _, _, _, _, _, rfl, _⟩ := h; rfl) | (obtain ⟨_, _, _, _, _, _, _, _, _, _, _, _, rfl, _⟩ := h; rfl) | (obtain ⟨_, _, _, _, _, _, _, _, _, _, _, _, _, rfl, _⟩ := h; rfl) | (obtain ⟨rfl, _⟩ := h; rfl))
theorem ok_sources (T : Txt K mg) : FnOk Pg T.w0 K mg base CX0 1 T.D_sources.f T.D_sources.d ["step"] ((spD K F_sources)) := by
  refine T.D_sources.F.ok (k := 0) sc_sources (spD_len (len_sources)) (fun cdv A outer s H vs Q E hr h => ?_)
  refine ⟨_, (pss_cons (ps_if (pt_cmpR (op_eqDK (K := K) rfl (hr_u hr)) (pe_ix (ix_kdK (K := K) (w := T.w0) rfl rfl) (pe_glob (v := .ref T.d_LENGTHS) rfl T.m_LENGTHS rfl) (pe_ix (ix_seqK (K := K) rfl) (pv 0) pe_int (fun _ _ => rfl)) (fun _ _ => rfl)) (pe_glob (v := .int 3) rfl T.c_LENGTH_OF_TWO ⟨_, rfl⟩) (nomark _))
      (pss_one (ps_ret (pe_slice (sl_tupAK (K := K) rfl) (pv 0) (po_some pe_int) (po_some pe_int))))
      pss_nil)
    (pss_one (ps_ret (pe_slice (sl_tupAK (K := K) rfl) (pv 0) (po_some pe_int) (po_some pe_int))))), ?_⟩
  try dsimp only [cxOf, Cx.blk, Cx.nox, Cx.wish]
  (refine body_of h fun W ds P eK f => ?_); subst eK
  obtain ⟨k, l, n, rfl, hk, hP⟩ := f
  have kd := T.kd_LENGTHS
  unfold srcs at hP
  unfold stD at *
  walk_at "pd"
  refine rd_kix kd hk ?_
  walk_at "pd"
  refine ⟨fun z => ?_, fun z => ?_⟩
  · have e := of_decide_eq_true z
    rw [hk, if_pos (by rw [e])] at hP
    walk_at "pd"
    refine ⟨_, rfl, ?_⟩
    walk_at "pd"
    refine ⟨_, rfl, ?_⟩
    walk_at "pd"
    refine ⟨_, rfl, ?_⟩
    rw [cut13, ← List.map_take]
    exact hP
  · have e := of_decide_eq_false z
    rw [hk, if_neg (by simpa using e)] at hP
    walk_at "pd"
    refine ⟨_, rfl, ?_⟩
    walk_at "pd"
    refine ⟨_, rfl, ?_⟩
    walk_at "pd"
    refine ⟨_, rfl, ?_⟩
    rw [cut12, ← List.map_take]
    exact hP
def isStep (n : Int) (x : D) : Bool := match stepOf x with
  | none => false
  | some (k, l) => (srcs k l).all (okSrc n)
theorem step_str {x : D} {xs : List D} (h : x.isStr = false) : stepOf (.tup (x :: xs)) = none := by
  cases x <;> first | rfl | cases h
def F_is_step (K : PySem.W.Frag) : FD := fun ds P => ∃ (x : D) (n : Int), ds = [x, .int n] ∧ Jd K x ∧ x.len ≤ 1000 ∧ P (.bl (isStep n x))
theorem len_is_step (K : PySem.W.Frag) : ∀ ds P, (F_is_step K) ds P → ds.length = 2 := by (intro ds P h; first | exact h | (obtain ⟨_, rfl, _⟩ := h; rfl) | (obtain ⟨_, _, rfl, _⟩ := h; rfl) | (obtain ⟨_, _, _, rfl, _⟩ := h; rfl) | (obtain ⟨_, _, _, _, rfl, _⟩ := h; rfl) | (obtain ⟨_, _, _, _, _, rfl, _⟩ := h; rfl) | (obtain ⟨_, _, _, _, _, _, rfl, _⟩ := h; rfl) | (obtain ⟨_, _, _, _, _, _, _, rfl, _⟩ := h; rfl) | (obtain ⟨_, _, _, _, _, _, _, _, rfl, _⟩ := h; rfl) | (obtain ⟨_, _, _, _, _, _, _, _, _, rfl, _⟩ := h; rfl) | (obtain ⟨_, _, _, _, _, _, _, _, _, _, rfl, _⟩ := h; rfl) | (obtain ⟨_, _, _, _, _, _, _, _, _, _, _, rfl, _⟩ := h; rfl) | (obtain ⟨_, _, _, _, _, _, _, _, _, _, _, _, rfl, _⟩ := h; rfl) | (obtain ⟨_, _, _, _, _, _, _, _, _, _, _, _, _, rfl, _⟩ := h; rfl) | (obtain ⟨rfl, _⟩ := h; rfl))
theorem ok_is_step (T : Txt K mg) : FnOk Pg T.w0 K mg base CX0 3 T.D_is_step.f T.D_is_step.d ["thing", "many"] ((spD K (F_is_step K))) := by
  have G_is_index := ok_is_index (Pg := Pg) (base := base) T
  have G_is_whole := ok_is_whole (Pg := Pg) (base := base) T
  have G_sources := ok_sources (Pg := Pg) (base := base) T
  refine T.D_is_step.F.ok (k := 2) sc_is_step (spD_len (len_is_step K)) (fun cdv A outer s H vs Q E hr h => ?_)
  refine ⟨_, (pss_cons (ps_if (PW.pt (pw_or (pt_not (pt_val (pe_callB (call_isiK' (K := K) rfl) (by rfl) T.n_isinstance (by decide +kernel) (pa_cons (pv 0) (pa_cons (pe_bltn (v := .ty "tuple") (u := .type "tuple") (by rfl) T.n_tuple (by decide +kernel) rfl) pa_nil))))) (pw_or (pt_cmpR (op_eqDK (K := K) rfl (hr_u hr)) (pe_callB (call_lenK (K := K) rfl) (by rfl) T.n_len (by decide +kernel) (pa_cons (pv 0) pa_nil)) pe_int (nomark _)) (pw_or1 (pt_not (pt_val (pe_callB (call_isiK' (K := K) rfl) (by rfl) T.n_isinstance (by decide +kernel) (pa_cons (pe_ix (ix_seqK (K := K) rfl) (pv 0) pe_int (fun _ _ => rfl)) (pa_cons (pe_bltn (v := .ty "str") (u := .type "str") (by rfl) T.n_str (by decide +kernel) rfl) pa_nil)))))))))
      (pss_one (ps_ret pe_bl))
      pss_nil)
    (pss_cons (ps_if (PW.pt (pw_or (pt_cmpR (op_neDK (K := K) rfl (hr_u hr)) (pe_callB (call_lenK (K := K) rfl) (by rfl) T.n_len (by decide +kernel) (pa_cons (pv 0) pa_nil)) (pe_kgetK (K := K) (w := T.w0) rfl rfl (pe_glob (v := .ref T.d_LENGTHS) rfl T.m_LENGTHS rfl) (pe_ix (ix_seqK (K := K) rfl) (pv 0) pe_int (fun _ _ => rfl)) ⟨rfl, rfl, rfl, rfl⟩) (nomark _)) (pw_or1 (pt_not (pt_val (pe_callB (cr_allK (K := K) rfl rfl) (by rfl) T.n_all (by decide +kernel) (pa_cons (pe_lc (own := [("number", 2)]) rfl sc_is_step.nd (pi_seqK (K := K) rfl (pe_slice (sl_tupAK (K := K) rfl) (pv 0) (po_some pe_int) po_none)) (blkOk_by (N := ["thing", "many", "number"]) (sc := defScope s_is_step) (by decide +kernel)) (fun _ _ _ _ _ => (pg_name (i := 2) sc_is_step.nd rfl (by first | exact Or.inl rfl | exact Or.inr rfl))) (fun _ _ _ _ _ => pts_nil) (fun _ _ _ _ _ => (pe_call G_is_whole (hr.mono (by decide)) (by rfl) T.D_is_whole.g T.D_is_whole.F.kp T.D_is_whole.b .nil pass0 (pa_cons (pv 2) pa_nil)))) pa_nil)))))))
      (pss_one (ps_ret pe_bl))
      pss_nil)
    (pss_one (ps_ret (pe_callB (cr_allK (K := K) rfl rfl) (by rfl) T.n_all (by decide +kernel) (pa_cons (pe_lc (own := [("number", 2)]) rfl sc_is_step.nd (pi_seqK (K := K) rfl (pe_call G_sources (hr.mono (by decide)) (by rfl) T.D_sources.g T.D_sources.F.kp T.D_sources.b .nil pass0 (pa_cons (pv 0) pa_nil))) (blkOk_by (N := ["thing", "many", "number"]) (sc := defScope s_is_step) (by decide +kernel)) (fun _ _ _ _ _ => (pg_name (i := 2) sc_is_step.nd rfl (by first | exact Or.inl rfl | exact Or.inr rfl))) (fun _ _ _ _ _ => pts_nil) (fun _ _ _ _ _ => (pe_call G_is_index (hr.mono (by decide)) (by rfl) T.D_is_index.g T.D_is_index.F.kp T.D_is_index.b .nil pass0 (pa_cons (pv 2) (pa_cons (pv 1) pa_nil))))) pa_nil)))))), ?_⟩
  try dsimp only [cxOf, Cx.blk, Cx.nox, Cx.wish]
  (refine body_of h fun W ds P eK f => ?_); subst eK
  obtain ⟨x, n, rfl, jx, lx, hP⟩ := f
  have tx := jd_ty jx
  have kd := T.kd_LENGTHS
  have no : stepOf x = none → P (.bl false) := fun e => by
    unfold isStep at hP
    rw [e] at hP
    exact hP
  walk_at "pd"
  refine ⟨fun z => ?_, fun z => ?_⟩
  · obtain ⟨xs, rfl⟩ := tup_of (by simpa using z)
    have lx : (xs.length : Int) ≤ 1000 := lx
    walk_at "pd"
    refine ⟨fun z => ?_, fun z => ?_⟩
    · have z := of_decide_eq_false z
      obtain _ | ⟨y, ys⟩ := xs
      · exact absurd rfl z
      simp only [Jd, JdA] at jx
      have ty := jd_ty jx.1
      walk_at "pd"
      cases hs : y.isStr with
      | false =>
        walk_at "pd"
        exact no (step_str hs)
      | true =>
        obtain ⟨k, rfl⟩ : ∃ k, y = .str k := by cases y <;> first | exact ⟨_, rfl⟩ | cases hs
        walk_at "pd"
        have tl : (D.str k :: ys).length = ys.length + 1 := rfl
        have form : ∀ n, kindLen.lookup k = some n → stepOf (.tup (.str k :: ys)) = (match intsOf ys with
            | none => none
            | some l => if (l.length : Int) + 1 = n then some (k, l) else none) := fun n e => by
          unfold stepOf
          simp only [e]
          cases intsOf ys <;> rfl
        refine ev_kget kd ?_
        walk_at "pd"
        refine ⟨rfl, ?_⟩
        walk_at "pd"
        refine ⟨k, rfl, ?_⟩
        change RD W _ _ (optI (kindLen.lookup k)) _
        cases e : kindLen.lookup k with
        | none =>
          refine rd_neIN ?_
          walk_at "pd"
          refine no ?_
          unfold stepOf
          simp only [e]
        | some m =>
          have form := form m e
          unfold optI
          walk_at "pd"
          refine ⟨fun z => ?_, fun z => ?_⟩
          · have z1 : ((ys.length + 1 : Nat) : Int) = m := by simpa using z
            walk_at "pd"
            refine ev_lcL (it_seqT ?_)
            walk_at "pd"
            refine ⟨_, rfl, ?_⟩
            walk_at "pd"
            refine ⟨_, rfl, ?_⟩
            walk_at "pd"
            rw [cut1]
            have z2 : ((D.str k :: ys).length : Int) ≤ 1000 := lx
            refine ⟨_, rfl, by omega, ys.map fun y => .bl y.isInt, by rw [List.length_map], fun i d y hd hy => ?_, ?_⟩
            · rw [List.getElem?_map, hd] at hy
              cases hy
              refine ⟨[2], by simp, gd_name ?_⟩
              walk_at "pd"
              exact ⟨d, rfl, jd_ty (jd_mem jx.2 (List.mem_of_getElem? hd)), rfl⟩
            · walk_at "pd"
              rw [show (ys.map fun y => D.bl y.isInt) = (ys.map fun y => y.isInt).map D.bl from by rw [List.map_map]; rfl]
              refine rc_all ?_
              rw [List.all_map, show (ys.all (id ∘ fun y => y.isInt)) = ys.all (·.isInt) from rfl, intsOf_all]
              cases ei : intsOf ys with
              | none =>
                walk_at "pd"
                refine no ?_
                rw [form, ei]
              | some l =>
                have ey := intsOf_some ei
                subst ey
                rw [List.length_map] at z1
                have so : stepOf (.tup (.str k :: l.map D.int)) = some (k, l) := by
                  rw [form, ei]
                  exact if_pos (by omega)
                have hP : P (.bl ((srcs k l).all (okSrc n))) := by
                  unfold isStep at hP
                  rw [so] at hP
                  exact hP
                walk_at "pd"
                refine ev_lcL (it_seqT ?_)
                walk_at "pd"
                refine ⟨k, l, m, rfl, e, ?_⟩
                have hs3 : (srcs k l).length ≤ 2 := by
                  unfold srcs
                  split <;> (rw [List.length_take]; omega)
                refine ⟨_, rfl, by rw [List.length_map]; omega, (srcs k l).map fun i => .bl (okSrc n i), by rw [List.length_map, List.length_map], fun i d y hd hy => ?_, ?_⟩
                · rw [List.getElem?_map] at hd hy
                  cases eq : (srcs k l)[i]? with
                  | none => rw [eq] at hd; cases hd
                  | some v =>
                    rw [eq] at hd hy
                    cases hd
                    cases hy
                    refine ⟨[2], by simp, gd_name ?_⟩
                    walk_at "pd"
                    exact ⟨_, _, rfl, rfl, by simp only [D.isInt, D.toI, Bool.true_and]; rfl⟩
                · walk_at "pd"
                  rw [show ((srcs k l).map fun i => D.bl (okSrc n i)) = ((srcs k l).map (okSrc n)).map D.bl from by rw [List.map_map]; rfl]
                  refine rc_all ?_
                  rw [List.all_map]
                  exact hP
          · have z1 : ¬ ((ys.length + 1 : Nat) : Int) = m := by simpa using z
            walk_at "pd"
            refine no ?_
            rw [form]
            cases ei : intsOf ys with
            | none => rfl
            | some l =>
              have ey := intsOf_some ei
              subst ey
              rw [List.length_map] at z1
              exact if_neg (by omega)
    · have z := of_decide_eq_true z
      obtain _ | ⟨y, ys⟩ := xs
      · walk_at "pd"
        exact no rfl
      · have z : ((ys.length + 1 : Nat) : Int) = 0 := z
        omega
  · walk_at "pd"
    have e : x.isTup = false := by simpa using z
    exact no (by cases x <;> first | rfl | cases e)
theorem made_none {shs : List Sh} {x : D} (h : isStep shs.length x = false) : madeD shs x = none := by
  unfold isStep at h
  unfold madeD
  cases e : stepOf x with
  | none => rfl
  | some p =>
    obtain ⟨k, l⟩ := p
    rw [e] at h
    simp only at h ⊢
    rw [h]
    rfl
def F_made_shape (K : PySem.W.Frag) : FD := fun ds P => ∃ (shs : List Sh) (x y : D), ds = [y, x] ∧ (y = .lst (shs.map shD) ∨ y = .tup (shs.map shD)) ∧ shs.length ≤ 1000 ∧ Jd K x ∧ x.len ≤ 1000 ∧ P (optSh (madeD shs x))
theorem len_made_shape (K : PySem.W.Frag) : ∀ ds P, (F_made_shape K) ds P → ds.length = 2 := by (intro ds P h; first | exact h | (obtain ⟨_, rfl, _⟩ := h; rfl) | (obtain ⟨_, _, rfl, _⟩ := h; rfl) | (obtain ⟨_, _, _, rfl, _⟩ := h; rfl) | (obtain ⟨_, _, _, _, rfl, _⟩ := h; rfl) | (obtain ⟨_, _, _, _, _, rfl, _⟩ := h; rfl) | (obtain ⟨_, _, _, _, _, _, rfl, _⟩ := h; rfl) | (obtain ⟨_, _, _, _, _, _, _, rfl, _⟩ := h; rfl) | (obtain ⟨_, _, _, _, _, _, _, _, rfl, _⟩ := h; rfl) | (obtain ⟨_, _, _, _, _, _, _, _, _, rfl, _⟩ := h; rfl) | (obtain ⟨_, _, _, _, _, _, _, _, _, _, rfl, _⟩ := h; rfl) | (obtain ⟨_, _, _, _, _, _, _, _, _, _, _, rfl, _⟩ := h; rfl) | (obtain ⟨_, _, _, _, _, _, _, _, _, _, _, _, rfl, _⟩ := h; rfl) | (obtain ⟨_, _, _, _, _, _, _, _, _, _, _, _, _, rfl, _⟩ := h; rfl) | (obtain ⟨rfl, _⟩ := h; rfl))
theorem ok_made_shape (T : Txt K mg) : FnOk Pg T.w0 K mg base CX0 4 T.D_made_shape.f T.D_made_shape.d ["shapes", "thing"] ((spD K (F_made_shape K))) := by
  have G__fitting_shape := ok__fitting_shape (Pg := Pg) (base := base) T
  have G_is_step := ok_is_step (Pg := Pg) (base := base) T
  have G_sources := ok_sources (Pg := Pg) (base := base) T
  refine T.D_made_shape.F.ok (k := 3) sc_made_shape (spD_len (len_made_shape K)) (fun cdv A outer s H vs Q E hr h => ?_)
  refine ⟨_, (pss_cons (ps_if (pt_not (pt_val (pe_call G_is_step (hr.mono (by decide)) (by rfl) T.D_is_step.g T.D_is_step.F.kp T.D_is_step.b .nil pass0 (pa_cons (pv 1) (pa_cons (pe_callB (call_lenK (K := K) rfl) (by rfl) T.n_len (by decide +kernel) (pa_cons (pv 0) pa_nil)) pa_nil)))))
      (pss_one (ps_ret pe_non))
      pss_nil)
    (pss_cons (ps_set (i := 2) sc_made_shape.nd rfl (by first | exact Or.inl rfl | exact Or.inr rfl) (pe_call G__fitting_shape (hr.mono (by decide)) (by rfl) T.D__fitting_shape.g T.D__fitting_shape.F.kp T.D__fitting_shape.b .nil pass0 (pa_cons (pv 1) (pa_cons (pe_lc (own := [("number", 3)]) rfl sc_made_shape.nd (pi_seqK (K := K) rfl (pe_call G_sources (hr.mono (by decide)) (by rfl) T.D_sources.g T.D_sources.F.kp T.D_sources.b .nil pass0 (pa_cons (pv 1) pa_nil))) (blkOk_by (N := ["shapes", "thing", "shape", "number"]) (sc := defScope s_made_shape) (by decide +kernel)) (fun _ _ _ _ _ => (pg_name (i := 3) sc_made_shape.nd rfl (by first | exact Or.inl rfl | exact Or.inr rfl))) (fun _ _ _ _ _ => pts_nil) (fun _ _ _ _ _ => (pe_ix (ix_seqK (K := K) rfl) (pv 0) (pv 3) (fun _ _ => rfl)))) pa_nil))))
    (pss_cons (ps_if (PW.pt (pw_or (pt_cmpR op_isN (pv 2) pe_non (nomark _)) (pw_or1 (pt_cmpR op_gt (pe_callB (call_maxTK (K := K) rfl rfl (hr_u hr)) (by rfl) T.n_max (by decide +kernel) (pa_cons (pv 2) pa_nil)) (pe_glob (v := .int 12) rfl T.c_MOST_MADE ⟨_, rfl⟩) (nomark _)))))
      (pss_one (ps_ret pe_non))
      pss_nil)
    (pss_one (ps_ret (pv 2)))))), ?_⟩
  try dsimp only [cxOf, Cx.blk, Cx.nox, Cx.wish]
  (refine body_of h fun W ds P eK f => ?_); subst eK
  obtain ⟨shs, x, y, rfl, hy, ls, jx, lx, hP⟩ := f
  rcases hy with rfl | rfl
  all_goals
    walk_at "pd"
    rw [List.length_map]
    refine ⟨x, _, rfl, jx, lx, ?_⟩
    walk_at "pd"
    cases hs : isStep shs.length x with
    | false =>
      rw [made_none hs] at hP
      walk_at "pd"
      exact hP
    | true =>
      walk_at "pd"
      have so : ∃ k l, stepOf x = some (k, l) ∧ (srcs k l).all (okSrc shs.length) = true := by
        unfold isStep at hs
        cases e : stepOf x with
        | none => rw [e] at hs; cases hs
        | some p => rw [e] at hs; exact ⟨p.1, p.2, rfl, hs⟩
      obtain ⟨k, l, so, hall⟩ := so
      obtain ⟨rfl, hk⟩ := stepOf_some so
      have hm : madeD shs (stD k l) = small12 (fitD k l (shAt shs (l.getD 0 0)) (shAt shs (l.getD 1 0))) := by
        unfold madeD
        rw [so]
        exact if_pos hall
      rw [hm] at hP
      refine ev_mid (fun d => d = .lst ((srcs k l).map fun i => shD (shAt shs i))) ?_ ?_
      · refine ev_lcL (it_seqT ?_)
        walk_at "pd"
        refine ⟨k, l, _, rfl, hk, ?_⟩
        have hs3 : (srcs k l).length ≤ 2 := by
          unfold srcs
          split <;> (rw [List.length_take]; omega)
        refine ⟨_, rfl, by rw [List.length_map]; omega, (srcs k l).map fun i => shD (shAt shs i), by rw [List.length_map, List.length_map], fun i d y hd hy => ?_, rfl⟩
        rw [List.getElem?_map] at hd hy
        cases eq : (srcs k l)[i]? with
        | none => rw [eq] at hd; cases hd
        | some v =>
          rw [eq] at hd hy
          cases hd
          cases hy
          have ok := List.all_eq_true.mp hall v (List.mem_of_getElem? eq)
          unfold okSrc at ok
          simp only [Bool.and_eq_true, decide_eq_true_eq] at ok
          refine ⟨[3], by simp, gd_name ?_⟩
          walk_at "pd"
          first | refine rd_ixL (j := v.toNat) (by omega) ?_ rfl | refine rd_ixT (j := v.toNat) (by omega) ?_ rfl
          have lt : v.toNat < shs.length := by omega
          rw [List.getElem?_map, List.getElem?_eq_getElem lt]
          unfold shAt
          simp [lt]
      · rintro d rfl
        have l1 : 1 ≤ l.length := by
          rcases kind_cases hk with ⟨_, h⟩ | ⟨_, h⟩ | ⟨_, h⟩ | ⟨_, h⟩ | ⟨_, h⟩ | ⟨_, h⟩ | ⟨_, h⟩ <;> omega
        obtain ⟨g, r, rfl⟩ : ∃ g r, l = g :: r := by
          cases l with
          | nil => simp at l1
          | cons g r => exact ⟨g, r, rfl⟩
        have hsr : ∃ m, (srcs k (g :: r)).map (fun i => shD (shAt shs i)) = (shAt shs g :: m).map shD ∧ (kindLen.lookup k = some 3 → ∃ q, m = shAt shs (r.getD 0 0) :: q) := by
          unfold srcs
          by_cases h3 : kindLen.lookup k = some 3
          · rw [if_pos h3]
            rw [h3] at hk
            have e3 := Option.some.inj hk
            obtain ⟨g2, rfl⟩ : ∃ g2, r = [g2] := by
              simp only [List.length_cons] at e3
              obtain _ | ⟨g2, _ | ⟨_, _⟩⟩ := r
              · simp at e3
              · exact ⟨g2, rfl⟩
              · simp only [List.length_cons] at e3
                omega
            exact ⟨[shAt shs g2], rfl, fun _ => ⟨[], rfl⟩⟩
          · rw [if_neg h3]
            exact ⟨[], rfl, fun h => absurd h h3⟩
        obtain ⟨m, em, hm3⟩ := hsr
        rw [em]
        walk_at "pd"
        refine ⟨k, g :: r, shAt shs g, shAt shs (r.getD 0 0), m, rfl, hk, hm3, ?_⟩
        have hP : P (optSh (small12 (fitD k (g :: r) (shAt shs g) (shAt shs (r.getD 0 0))))) := hP
        cases ef : fitD k (g :: r) (shAt shs g) (shAt shs (r.getD 0 0)) with
        | none =>
          rw [ef] at hP
          unfold optSh
          walk_at "pd"
          exact hP
        | some p =>
          rw [ef] at hP
          obtain ⟨a, b⟩ := p
          unfold optSh shD
          walk_at "pd"
          refine rc_maxT (n := a) (ns := [b]) ?_
          walk_at "pd"
          have hP : P (optSh (if 12 < max a b then none else some (a, b))) := hP
          refine ⟨fun z => ?_, fun z => ?_⟩
          · have z : 12 < max a b := of_decide_eq_true z
            rw [if_pos z] at hP
            walk_at "pd"
            exact hP
          · have z : ¬ 12 < max a b := of_decide_eq_false z
            rw [if_neg z] at hP
            walk_at "pd"
            exact hP
theorem ok_BadScript___init__ (T : Txt K mg) : FnOk Pg T.w0 K mg base CX0 1 T.D_BadScript___init__.f T.D_BadScript___init__.d ["self", "part"] (spI1 K "part") := by
  refine T.D_BadScript___init__.F.ok (k := 0) sc_BadScript___init__ (fun vs H Q E h => by obtain ⟨_, _, _, rfl, _⟩ := h; rfl) (fun cdv A outer s H vs Q E hr h => ?_)
  refine ⟨_, (pss_one (ps_ost (pv 0) (pv 1))), ?_⟩
  try dsimp only [cxOf, Cx.blk, Cx.nox, Cx.wish]
  obtain ⟨a, C, y, rfl, hC, hf, e, q⟩ := h
  refine ⟨y, rfl, .ref a, rfl, a, C, rfl, hC, hf, .inl ⟨e, fun dx h1 h2 => ?_⟩⟩
  exact q dx h1 h2
def F__shapes_made {K : PySem.W.Frag} {mg : Str → Option Value} (T : Txt K mg) : FX := fun ds P X => ∃ (shs : List Sh) (xs : List D), ds = [.lst (shs.map shD), .tup xs] ∧ shs.length ≤ 10 ∧ xs.length ≤ 16 ∧ JdA K xs ∧ (∀ x ∈ xs, x.len ≤ 1000) ∧ (∀ r, runS shs xs 0 = .inl r → P (.tup (r.map shD))) ∧ ∀ k, runS shs xs 0 = .inr k → X (T.x_BadScript.C, [("part", .int k)])
theorem len__shapes_made {K : PySem.W.Frag} {mg : Str → Option Value} (T : Txt K mg) : ∀ ds P X, (F__shapes_made T) ds P X → ds.length = 2 := by (intro ds P X h; first | exact h | (obtain ⟨_, rfl, _⟩ := h; rfl) | (obtain ⟨_, _, rfl, _⟩ := h; rfl) | (obtain ⟨_, _, _, rfl, _⟩ := h; rfl) | (obtain ⟨_, _, _, _, rfl, _⟩ := h; rfl) | (obtain ⟨_, _, _, _, _, rfl, _⟩ := h; rfl) | (obtain ⟨_, _, _, _, _, _, rfl, _⟩ := h; rfl) | (obtain ⟨_, _, _, _, _, _, _, rfl, _⟩ := h; rfl) | (obtain ⟨_, _, _, _, _, _, _, _, rfl, _⟩ := h; rfl) | (obtain ⟨_, _, _, _, _, _, _, _, _, rfl, _⟩ := h; rfl) | (obtain ⟨_, _, _, _, _, _, _, _, _, _, rfl, _⟩ := h; rfl) | (obtain ⟨_, _, _, _, _, _, _, _, _, _, _, rfl, _⟩ := h; rfl) | (obtain ⟨_, _, _, _, _, _, _, _, _, _, _, _, rfl, _⟩ := h; rfl) | (obtain ⟨_, _, _, _, _, _, _, _, _, _, _, _, _, rfl, _⟩ := h; rfl) | (obtain ⟨rfl, _⟩ := h; rfl))
theorem ok__shapes_made (T : Txt K mg) : FnOk Pg T.w0 K mg base (L2.CX Pg T.w0) 5 T.D__shapes_made.f T.D__shapes_made.d ["shapes", "steps"] ((spX K (F__shapes_made T))) := by
  have G_BadScript___init__ := ok_BadScript___init__ (Pg := Pg) (base := base) T
  have G_made_shape := ok_made_shape (Pg := Pg) (base := base) T
  refine T.D__shapes_made.F.okX (k := 4) sc__shapes_made (spX_len (len__shapes_made T)) (fun cdv A outer s H vs Q E hr h => ?_)
  refine ⟨_, (pss_cons (ps_set (i := 2) sc__shapes_made.nd rfl (by first | exact Or.inl rfl | exact Or.inr rfl) (pe_callTy (call_list_ofK (K := K) rfl) (by rfl) T.n_list (by decide +kernel) (pa_cons (pv 0) pa_nil)))
    (pss_cons (ps_for (passes_of rfl) rfl (pi_enumT (K := K) rfl (by rfl) T.n_enumerate (pa_cons (pv 1) pa_nil)) (by exact (pg_tupK (K := K) (n := 2) rfl rfl (pgs_cons (pg_name (i := 3) sc__shapes_made.nd rfl (by first | exact Or.inl rfl | exact Or.inr rfl)) (pgs_cons (pg_name (i := 4) sc__shapes_made.nd rfl (by first | exact Or.inl rfl | exact Or.inr rfl)) pgs_nil))))
      (pss_cons (ps_set (i := 5) sc__shapes_made.nd rfl (by first | exact Or.inl rfl | exact Or.inr rfl) (pe_call G_made_shape (hr.mono (by decide)) (by rfl) T.D_made_shape.g T.D_made_shape.F.kp T.D_made_shape.b .nil pass0 (pa_cons (pv 2) (pa_cons (pv 4) pa_nil))))
    (pss_cons (ps_if (pt_cmpR op_isN (pv 5) pe_non (nomark _))
      (pss_one (ps_raise rfl (takes_of rfl rfl rfl rfl) (pmk_oex T.x_BadScript.o T.x_BadScript.i T.ty_BadScript___init__ G_BadScript___init__ (hr.mono (by decide)) T.D_BadScript___init__.b .nil pass0 (by rfl) T.x_BadScript.g (pa_cons (pv 3) pa_nil))))
      pss_nil)
    (pss_one (ps_expr (pe_bm PySem.F.plainAttrs_list PySem.F.slot_list_append PySem.F.type_list_append mt_append (pv 2) (pa_cons (pv 5) pa_nil)))))))
    (pss_one (ps_ret (pe_callTy (call_tuple_ofK (K := K) rfl) (by rfl) T.n_tuple (by decide +kernel) (pa_cons (pv 2) pa_nil)))))), ?_⟩
  try dsimp only [cxOf, Cx.blk, Cx.nox, Cx.wish]
  refine body_ofXO h fun W ds P X eK f => ?_
  subst eK
  obtain ⟨shs, xs, rfl, l6, l16, jx, lx, hP, hX⟩ := f
  refine so_seq (so_list ?_)
  walk_at "pd"
  refine ⟨_, .inr rfl, nrefs_sh shs, fun p _ => ?_⟩
  refine so_seq (so_for (it_enumT ?_))
  walk_at "pd"
  refine ⟨xs, rfl, fun i ω δ => ∃ cur a b c, ω = [(p, cur.map shD)] ∧ δ = [some (.lst (shs.map shD)), some (.tup xs), some (.obj p), a, b, c] ∧ cur.length = shs.length + i ∧ runS cur (xs.drop i) i = runS shs xs 0, ⟨shs, none, none, none, rfl, rfl, rfl, rfl⟩, fun i d ω δ hd hI => ?_, fun ω δ hI => ?_⟩
  · obtain ⟨cur, a, b, c, rfl, rfl, hl, hr⟩ := hI
    obtain ⟨x, hx, rfl⟩ := enumD_get hd
    have hi := (List.getElem?_eq_some_iff.mp hx).1
    have hm := List.mem_of_getElem? hx
    have hdr : xs.drop i = x :: xs.drop (i + 1) := by
      rw [List.drop_eq_getElem_cons hi]
      congr 1
      exact (List.getElem?_eq_some_iff.mp hx).2
    rw [hdr] at hr
    refine ⟨_, gd_tup2 (gd_name (gd_name ?_))⟩
    refine so_seq (so_asgL (evl_put (a := p) 2 rfl List.mem_cons_self (evl_ev ?_)))
    walk_at "pd"
    refine ⟨cur, x, _, rfl, .inl rfl, by omega, jd_mem jx hm, lx x hm, nref_opt _, ?_⟩
    cases em : madeD cur x with
    | none =>
      have hX : X (T.x_BadScript.C, [("part", .int i)]) := hX i (by
        rw [← hr]
        unfold runS
        rw [em])
      unfold optSh
      refine so_seq (so_lift ?_)
      walk_at "pd"
      refine sx_raise1 T.x_BadScript.o T.nx_BadScript_part ?_
      walk_at "pd"
      exact ⟨_, rfl, hX⟩
    | some q =>
      have hr : runS (cur ++ [q]) (xs.drop (i + 1)) (i + 1) = runS shs xs 0 := by
        rw [← hr]
        conv => rhs; unfold runS
        rw [em]
      unfold optSh shD
      refine so_seq (so_lift ?_)
      walk_at "pd"
      refine so_app (i := 2) rfl List.mem_cons_self (fun es m => ?_) ?_
      · rw [List.mem_singleton] at m
        cases m
        rw [List.length_map]
        omega
      walk_at "pd"
      refine ⟨_, rfl, cur ++ [q], _, _, _, ?_, rfl, by rw [List.length_append]; show cur.length + 1 = _; omega, hr⟩
      simp only [putO, List.map_cons, List.map_nil, if_true, List.map_append]
  · obtain ⟨cur, a, b, c, rfl, rfl, hl, hr⟩ := hI
    rw [enumD_length, List.drop_length] at hr
    have hP : P (.tup (cur.map shD)) := hP cur (by rw [← hr]; rfl)
    refine so_retL (evl_put (a := p) 2 rfl List.mem_cons_self (evl_ev ?_))
    walk_at "pd"
    refine ⟨nref_tup fun x hx => ?_, hP⟩
    obtain ⟨q, _, rfl⟩ := List.mem_map.mp hx
    exact nref_opt (some q)
def F__are_grids {K : PySem.W.Frag} {mg : Str → Option Value} (T : Txt K mg) : FD := fun ds P => ∃ x : D, ds = [x] ∧ Jd K x ∧ x.len ≤ 1000 ∧ okIns2 T.k_Grid.C x ∧ P (.bl (areG x))
theorem len__are_grids {K : PySem.W.Frag} {mg : Str → Option Value} (T : Txt K mg) : ∀ ds P, (F__are_grids T) ds P → ds.length = 1 := by (intro ds P h; first | exact h | (obtain ⟨_, rfl, _⟩ := h; rfl) | (obtain ⟨_, _, rfl, _⟩ := h; rfl) | (obtain ⟨_, _, _, rfl, _⟩ := h; rfl) | (obtain ⟨_, _, _, _, rfl, _⟩ := h; rfl) | (obtain ⟨_, _, _, _, _, rfl, _⟩ := h; rfl) | (obtain ⟨_, _, _, _, _, _, rfl, _⟩ := h; rfl) | (obtain ⟨_, _, _, _, _, _, _, rfl, _⟩ := h; rfl) | (obtain ⟨_, _, _, _, _, _, _, _, rfl, _⟩ := h; rfl) | (obtain ⟨_, _, _, _, _, _, _, _, _, rfl, _⟩ := h; rfl) | (obtain ⟨_, _, _, _, _, _, _, _, _, _, rfl, _⟩ := h; rfl) | (obtain ⟨_, _, _, _, _, _, _, _, _, _, _, rfl, _⟩ := h; rfl) | (obtain ⟨_, _, _, _, _, _, _, _, _, _, _, _, rfl, _⟩ := h; rfl) | (obtain ⟨_, _, _, _, _, _, _, _, _, _, _, _, _, rfl, _⟩ := h; rfl) | (obtain ⟨rfl, _⟩ := h; rfl))
theorem ok__are_grids (T : Txt K mg) : FnOk Pg T.w0 K mg base CX0 1 T.D__are_grids.f T.D__are_grids.d ["thing"] ((spD K (F__are_grids T))) := by
  refine T.D__are_grids.F.ok (k := 0) sc__are_grids (spD_len (len__are_grids T)) (fun cdv A outer s H vs Q E hr h => ?_)
  refine ⟨_, (pss_cons (ps_if (PW.pt (pw_or (pt_not (pt_val (pe_callB (call_isiK' (K := K) rfl) (by rfl) T.n_isinstance (by decide +kernel) (pa_cons (pv 0) (pa_cons (pe_bltn (v := .ty "tuple") (u := .type "tuple") (by rfl) T.n_tuple (by decide +kernel) rfl) pa_nil))))) (pw_or1 (pt_not (pt_chain op_le op_le pe_int (pe_callB (call_lenK (K := K) rfl) (by rfl) T.n_len (by decide +kernel) (pa_cons (pv 0) pa_nil)) (pe_glob (v := .int 6) rfl T.c_MOST_GRIDS ⟨_, rfl⟩))))))
      (pss_one (ps_ret pe_bl))
      pss_nil)
    (pss_cons (ps_if (pt_not (pt_val (pe_callB (cr_allK (K := K) rfl rfl) (by rfl) T.n_all (by decide +kernel) (pa_cons (pe_lc (own := [("grid", 1)]) rfl sc__are_grids.nd (pi_seqK (K := K) rfl (pv 0)) (blkOk_by (N := ["thing", "grid"]) (sc := defScope s__are_grids) (by decide +kernel)) (fun _ _ _ _ _ => (pg_name (i := 1) sc__are_grids.nd rfl (by first | exact Or.inl rfl | exact Or.inr rfl))) (fun _ _ _ _ _ => pts_nil) (fun _ _ _ _ _ => (pe_callB (call_isiK' (K := K) rfl) (by rfl) T.n_isinstance (by decide +kernel) (pa_cons (pv 1) (pa_cons (pe_glob (v := .ref T.k_Grid.C) rfl T.k_Grid.g rfl) pa_nil))))) pa_nil))))
      (pss_one (ps_ret pe_bl))
      pss_nil)
    (pss_one (ps_ret (pe_callB (cr_allK (K := K) rfl rfl) (by rfl) T.n_all (by decide +kernel) (pa_cons (pe_lc (own := [("grid", 1)]) rfl sc__are_grids.nd (pi_seqK (K := K) rfl (pv 0)) (blkOk_by (N := ["thing", "grid"]) (sc := defScope s__are_grids) (by decide +kernel)) (fun _ _ _ _ _ => (pg_name (i := 1) sc__are_grids.nd rfl (by first | exact Or.inl rfl | exact Or.inr rfl))) (fun _ _ _ _ _ => pts_nil) (fun _ _ _ _ _ => (pe_cmpR (op_eqDK (K := K) rfl (hr_u hr)) (pe_fldK (K := K) rfl (pv 1) rfl) (pe_fldK (K := K) rfl (pe_ix (ix_seqK (K := K) rfl) (pv 0) pe_int (fun _ _ => rfl)) rfl) (nomark _)))) pa_nil)))))), ?_⟩
  try dsimp only [cxOf, Cx.blk, Cx.nox, Cx.wish]
  (refine body_of h fun W ds P eK f => ?_); subst eK
  obtain ⟨x, rfl, jx, lx, ok, hP⟩ := f
  have tx := jd_ty jx
  walk_at "pd"
  refine ⟨fun z => ?_, fun z => ?_⟩
  · obtain ⟨xs, rfl⟩ := tup_of (by simpa using z)
    have lx : (xs.length : Int) ≤ 1000 := lx
    have hP : P (.bl (decide (1 ≤ xs.length) && decide (xs.length ≤ 6) && xs.all D.isIns && xs.all (fun e => decide (basD e = basD (xs.headD .non))))) := hP
    simp only [Jd] at jx
    have jm : ∀ e ∈ xs, Jd1 W.K e := fun e he => jd_ty (jd_mem jx he)
    have oi := ok.2 xs rfl
    have core : 1 ≤ xs.length → xs.length ≤ 6 → SX W WF
        (tSeq
          (tIfS (tNot (tB (tCB (rAll W.K) (tCons (tLc (iSeq W.K (tVar 0)) (gName 1) tYes (tCB (rIsi W.K) (tCons (tVar 1) (tCons (tC (V.ref T.k_Grid.C)) tNil))) (List.map (fun x => x.snd) [(Str.ofString "grid", 1)])) tNil)))) (tRet (tC (V.bl false))) tNext)
          (tRet (tCB (rAll W.K) (tCons (tLc (iSeq W.K (tVar 0)) (gName 1) tYes
            (tOp (rEqD W.K) (tFld W.K (tVar 1) (Str.ofString "bases")) (tFld W.K (tOp (rIx W.K) (tVar 0) (tC (V.int 0))) (Str.ofString "bases")))
            (List.map (fun x => x.snd) [(Str.ofString "grid", 1)])) tNil))))
        [some (D.tup xs), none] (fun x => P D.non) P (fun x => False) (fun x => False) XN := fun h1 h6 => by
      rw [decide_eq_true h1, decide_eq_true h6, Bool.true_and, Bool.true_and] at hP
      walk_at "pd"
      refine ev_lcL (it_seqT (ev_var rfl ⟨xs, rfl, by omega, xs.map fun e => .bl e.isIns, by rw [List.length_map], fun i d y hd hy => ?_, ?_⟩))
      · rw [List.getElem?_map, hd] at hy
        cases hy
        have he := List.mem_of_getElem? hd
        refine ⟨[1], by simp, gd_name ?_⟩
        walk_at "pd"
        refine rc_isiC T.i_Grid (jm d he) (fun E ns ds z => ?_) rfl
        obtain ⟨n, m, ys, e, _⟩ := oi d he E ns ds z
        rw [e] at z
        cases z
        rfl
      · walk_at "pd"
        rw [show (xs.map fun e => D.bl e.isIns) = (xs.map D.isIns).map D.bl from by rw [List.map_map]; rfl]
        refine rc_all ?_
        rw [List.all_map, show xs.all (id ∘ D.isIns) = xs.all D.isIns from rfl]
        cases ha : xs.all D.isIns with
        | false =>
          rw [ha] at hP
          walk_at "pd"
          exact hP
        | true =>
          rw [ha, Bool.true_and] at hP
          obtain ⟨x0, r, rfl⟩ : ∃ x0 r, xs = x0 :: r := by
            cases xs with
            | nil => simp at h1
            | cons a b => exact ⟨a, b, rfl⟩
          obtain ⟨n0, m0, ys0, e0, _⟩ := areG_ins oi ha List.mem_cons_self
          walk_at "pd"
          refine ev_lcL (it_seqT (ev_var rfl ⟨x0 :: r, rfl, by omega, (x0 :: r).map fun e => .bl (decide (basD e = basD x0)), by rw [List.length_map], fun i d y hd hy => ?_, ?_⟩))
          · rw [List.getElem?_map, hd] at hy
            cases hy
            have he := List.mem_of_getElem? hd
            obtain ⟨n, m, ys, e, _⟩ := areG_ins oi ha he
            refine ⟨[1], by simp, gd_name ?_⟩
            subst e e0
            walk_at "pd"
            (refine ev_fld ?_; refine ev_var rfl ?_; refine ⟨_, _, _, _, rfl, T.k_Grid.o.cl, T.na_Grid_bases, rfl, ?_⟩)
            walk_at "pd"
            refine ev_fld ?_
            walk_at "pd"
            refine ⟨_, _, _, _, rfl, T.k_Grid.o.cl, T.na_Grid_bases, rfl, ?_⟩
            walk_at "pd"
            rfl
          · walk_at "pd"
            rw [show ((x0 :: r).map fun e => D.bl (decide (basD e = basD x0))) = ((x0 :: r).map fun e => decide (basD e = basD x0)).map D.bl from by rw [List.map_map]; rfl]
            refine rc_all ?_
            rw [List.all_map]
            exact hP
    have len_no : ¬ (1 ≤ xs.length ∧ xs.length ≤ 6) → P (.bl false) := fun h => by
      have : (decide (1 ≤ xs.length) && decide (xs.length ≤ 6)) = false := by
        by_cases a : 1 ≤ xs.length
        · rw [decide_eq_false (show ¬ xs.length ≤ 6 from fun b => h ⟨a, b⟩), Bool.and_false]
        · rw [decide_eq_false a, Bool.false_and]
      rw [this, Bool.false_and, Bool.false_and] at hP
      exact hP
    walk_at "pd"
    refine ⟨fun z => ?_, fun z => ?_⟩
    · have h1 : 1 ≤ xs.length := by
        have := of_decide_eq_true z
        omega
      walk_at "pd"
      refine ⟨fun z => ?_, fun z => ?_⟩
      · have h6 : ¬ xs.length ≤ 6 := by
          have : decide ((xs.length : Int) ≤ 6) = false := by simpa using z
          have := of_decide_eq_false this
          omega
        walk_at "pd"
        exact len_no fun h => h6 h.2
      · have h6 : xs.length ≤ 6 := by
          have : decide ((xs.length : Int) ≤ 6) = true := by simpa using z
          have := of_decide_eq_true this
          omega
        exact sd_next (core h1 h6)
    · have h1 : ¬ 1 ≤ xs.length := by
        have := of_decide_eq_false z
        omega
      walk_at "pd"
      exact len_no fun h => h1 h.1
  · have e : x.isTup = false := by simpa using z
    have e2 : areG x = false := by cases x <;> first | rfl | cases e
    rw [e2] at hP
    walk_at "pd"
    exact hP
def F__shape_put_in {K : PySem.W.Frag} {mg : Str → Option Value} (T : Txt K mg) : FD := fun ds P => ∃ (n : Int) (m : Nat) (xs : List D), ds = [gd T.k_Grid.C n xs] ∧ Grd n m xs ∧ P (shD (shG (gd T.k_Grid.C n xs)))
theorem len__shape_put_in {K : PySem.W.Frag} {mg : Str → Option Value} (T : Txt K mg) : ∀ ds P, (F__shape_put_in T) ds P → ds.length = 1 := by (intro ds P h; first | exact h | (obtain ⟨_, rfl, _⟩ := h; rfl) | (obtain ⟨_, _, rfl, _⟩ := h; rfl) | (obtain ⟨_, _, _, rfl, _⟩ := h; rfl) | (obtain ⟨_, _, _, _, rfl, _⟩ := h; rfl) | (obtain ⟨_, _, _, _, _, rfl, _⟩ := h; rfl) | (obtain ⟨_, _, _, _, _, _, rfl, _⟩ := h; rfl) | (obtain ⟨_, _, _, _, _, _, _, rfl, _⟩ := h; rfl) | (obtain ⟨_, _, _, _, _, _, _, _, rfl, _⟩ := h; rfl) | (obtain ⟨_, _, _, _, _, _, _, _, _, rfl, _⟩ := h; rfl) | (obtain ⟨_, _, _, _, _, _, _, _, _, _, rfl, _⟩ := h; rfl) | (obtain ⟨_, _, _, _, _, _, _, _, _, _, _, rfl, _⟩ := h; rfl) | (obtain ⟨_, _, _, _, _, _, _, _, _, _, _, _, rfl, _⟩ := h; rfl) | (obtain ⟨_, _, _, _, _, _, _, _, _, _, _, _, _, rfl, _⟩ := h; rfl) | (obtain ⟨rfl, _⟩ := h; rfl))
theorem ok__shape_put_in (T : Txt K mg) : FnOk Pg T.w0 K mg base CX0 1 T.D__shape_put_in.f T.D__shape_put_in.d ["grid"] ((spD K (F__shape_put_in T))) := by
  refine T.D__shape_put_in.F.ok (k := 0) sc__shape_put_in (spD_len (len__shape_put_in T)) (fun cdv A outer s H vs Q E hr h => ?_)
  refine ⟨_, (pss_one (ps_ret (pe_tup (pa_cons (pe_callB (call_lenK (K := K) rfl) (by rfl) T.n_len (by decide +kernel) (pa_cons (pe_fldK (K := K) rfl (pv 0) rfl) pa_nil)) (pa_cons (pe_callB (call_lenK (K := K) rfl) (by rfl) T.n_len (by decide +kernel) (pa_cons (pe_ix (ix_seqK (K := K) rfl) (pe_fldK (K := K) rfl (pv 0) rfl) pe_int (fun _ _ => rfl)) pa_nil)) pa_nil))))), ?_⟩
  try dsimp only [cxOf, Cx.blk, Cx.nox, Cx.wish]
  (refine body_of h fun W ds P eK f => ?_); subst eK
  obtain ⟨n, m, xs, rfl, g, hP⟩ := f
  obtain ⟨r0, h0, hr0, hh⟩ := g.head
  have hP : P (.tup [.int xs.length, .int (xs.headD .non).len]) := hP
  rw [hh] at hP
  walk_at "pd"
  (refine ev_fld ?_; refine ev_var rfl ?_; refine ⟨_, _, _, _, rfl, T.k_Grid.o.cl, T.na_Grid_rows, rfl, ?_⟩)
  walk_at "pd"
  (refine ev_fld ?_; refine ev_var rfl ?_; refine ⟨_, _, _, _, rfl, T.k_Grid.o.cl, T.na_Grid_rows, rfl, ?_⟩)
  walk_at "pd"
  refine rd_ixT (j := 0) rfl h0 ?_
  walk_at "pd"
  rw [hr0]
  exact hP
def F_Script___init__ {K : PySem.W.Frag} {mg : Str → Option Value} (T : Txt K mg) : FI := fun C ds P X => ∃ g st, C = T.k_Script.C ∧ ds = [g, st] ∧ Jd K g ∧ g.len ≤ 1000 ∧ okIns2 T.k_Grid.C g ∧ Jd K st ∧ st.len ≤ 1000 ∧ (∀ xs, st = .tup xs → ∀ x ∈ xs, x.len ≤ 1000) ∧
  (∀ gs xs r, wrongS g st = .non → g = .tup gs → st = .tup xs → runS (gs.map shG) xs 0 = .inl r → P ["grids", "steps", "shapes"] [g, st, .tup (r.map shD)]) ∧ (wrongS g st ≠ .non → X (T.x_BadScript.C, [("part", wrongS g st)]))
theorem len_Script___init__ {K : PySem.W.Frag} {mg : Str → Option Value} (T : Txt K mg) : ∀ C ds P X, (F_Script___init__ T) C ds P X → ds.length + 1 = 3 := by (intro C ds P X h; first | exact congrArg (· + 1) h | (obtain ⟨_, rfl, _⟩ := h; rfl) | (obtain ⟨_, _, rfl, _⟩ := h; rfl) | (obtain ⟨_, _, _, rfl, _⟩ := h; rfl) | (obtain ⟨_, _, _, _, rfl, _⟩ := h; rfl) | (obtain ⟨rfl, _⟩ := h; rfl))
theorem ok_Script___init__ (T : Txt K mg) : FnOk Pg T.w0 K mg base (L2.CX Pg T.w0) 6 T.D_Script___init__.f T.D_Script___init__.d ["self", "grids", "steps"] (spInit K (F_Script___init__ T)) := by
  have G_BadScript___init__ := ok_BadScript___init__ (Pg := Pg) (base := base) T
  have G__are_grids := ok__are_grids (Pg := Pg) (base := base) T
  have G__shape_put_in := ok__shape_put_in (Pg := Pg) (base := base) T
  have G__shapes_made := ok__shapes_made (Pg := Pg) (base := base) T
  refine T.D_Script___init__.F.okX (k := 5) sc_Script___init__ (spInit_len (len_Script___init__ T)) (fun cdv A outer s H vs Q E hr h => ?_)
  refine ⟨_, (pss_cons (ps_if (pt_not (pt_val (pe_call G__are_grids (hr.mono (by decide)) (by rfl) T.D__are_grids.g T.D__are_grids.F.kp T.D__are_grids.b .nil pass0 (pa_cons (pv 1) pa_nil))))
      (pss_one (ps_raise rfl (takes_of rfl rfl rfl rfl) (pmk_oex T.x_BadScript.o T.x_BadScript.i T.ty_BadScript___init__ G_BadScript___init__ (hr.mono (by decide)) T.D_BadScript___init__.b .nil pass0 (by rfl) T.x_BadScript.g (pa_cons pe_str pa_nil))))
      pss_nil)
    (pss_cons (ps_if (PW.pt (pw_or (pt_not (pt_val (pe_callB (call_isiK' (K := K) rfl) (by rfl) T.n_isinstance (by decide +kernel) (pa_cons (pv 2) (pa_cons (pe_bltn (v := .ty "tuple") (u := .type "tuple") (by rfl) T.n_tuple (by decide +kernel) rfl) pa_nil))))) (pw_or1 (pt_cmpR op_gt (pe_callB (call_lenK (K := K) rfl) (by rfl) T.n_len (by decide +kernel) (pa_cons (pv 2) pa_nil)) (pe_glob (v := .int 16) rfl T.c_MOST_STEPS ⟨_, rfl⟩) (nomark _)))))
      (pss_one (ps_raise rfl (takes_of rfl rfl rfl rfl) (pmk_oex T.x_BadScript.o T.x_BadScript.i T.ty_BadScript___init__ G_BadScript___init__ (hr.mono (by decide)) T.D_BadScript___init__.b .nil pass0 (by rfl) T.x_BadScript.g (pa_cons pe_str pa_nil))))
      pss_nil)
    (pss_cons (ps_fld (pv 0) (pv 1) (by rfl))
    (pss_cons (ps_fld (pv 0) (pv 2) (by rfl))
    (pss_one (ps_fld (pv 0) (pe_callS G__shapes_made (hr.mono (by decide)) (by rfl) T.D__shapes_made.g T.D__shapes_made.F.kp T.D__shapes_made.b (fun σ => passAt (takes_of rfl rfl rfl rfl) σ) (pa_cons (pe_lc (own := [("grid", 3)]) rfl sc_Script___init__.nd (pi_seqK (K := K) rfl (pv 1)) (blkOk_by (N := ["self", "grids", "steps", "grid"]) (sc := defScope s_Script___init__) (by decide +kernel)) (fun _ _ _ _ _ => (pg_name (i := 3) sc_Script___init__.nd rfl (by first | exact Or.inl rfl | exact Or.inr rfl))) (fun _ _ _ _ _ => pts_nil) (fun _ _ _ _ _ => (pe_call G__shape_put_in (hr.mono (by decide)) (by rfl) T.D__shape_put_in.g T.D__shape_put_in.F.kp T.D__shape_put_in.b .nil pass0 (pa_cons (pv 3) pa_nil)))) (pa_cons (pv 2) pa_nil))) (by rfl))))))), ?_⟩
  try dsimp only [cxOf, Cx.blk, Cx.nox, Cx.wish]
  refine init_body3 h (by decide) (by decide) (by decide) fun W C x ds P X eK f => ?_
  subst eK
  obtain ⟨g, st, rfl, rfl, jg, lg, ok, js, l0, ls, hP, hX⟩ := f
  have ts := jd_ty js
  refine ⟨T.k_Script.o.cl, T.na_Script_grids, T.na_Script_steps, T.na_Script_shapes, ?_⟩
  walk_at "pd"
  refine ⟨g, rfl, jg, lg, ok, ?_⟩
  cases ha : areG g with
  | false =>
    rw [wrongS_no ha] at hX
    walk_at "pd"
    refine sx_raise1 T.x_BadScript.o T.nx_BadScript_part ?_
    walk_at "pd"
    exact ⟨_, rfl, hX (by intro z; cases z)⟩
  | true =>
    obtain ⟨gs, rfl, g1, g6, gi⟩ := areG_tup ha
    rw [wrongS_in ha] at hX hP
    walk_at "pd"
    have bad : (∀ xs, st = .tup xs → ¬ xs.length ≤ 16) → X (T.x_BadScript.C, [("part", .str "steps")]) := fun h => by
      cases st with
      | tup xs =>
        have e := h xs rfl
        simp only [if_neg e] at hX
        exact hX (by intro z; cases z)
      | _ => exact hX (by intro z; cases z)
    refine ⟨fun z => ?_, fun z => ?_⟩
    · obtain ⟨xs, rfl⟩ := tup_of (by simpa using z)
      have l0 : (xs.length : Int) ≤ 1000 := l0
      have ls := ls xs rfl
      simp only [Jd] at js
      walk_at "pd"
      refine ⟨fun z => ?_, fun z => ?_⟩
      · have z := of_decide_eq_true z
        walk_at "pd"
        refine sx_raise1 T.x_BadScript.o T.nx_BadScript_part ?_
        walk_at "pd"
        exact ⟨_, rfl, bad fun ys e => by cases e; omega⟩
      · have z := of_decide_eq_false z
        have l16 : xs.length ≤ 16 := by omega
        simp only [if_pos l16] at hX hP
        walk_at "pd"
        refine ⟨_, _, rfl, rfl, rfl, ?_⟩
        walk_at "pd"
        refine ev_lcL (it_seqT (ev_var rfl ⟨gs, rfl, by omega, gs.map fun e => shD (shG e), by rw [List.length_map], fun i d y hd hy => ?_, ?_⟩))
        · rw [List.getElem?_map, hd] at hy
          cases hy
          obtain ⟨n, m, ys, rfl, gd1⟩ := areG_ins (ok.2 gs rfl) gi (List.mem_of_getElem? hd)
          refine ⟨[3], by simp, gd_name ?_⟩
          walk_at "pd"
          exact ⟨n, m, ys, rfl, gd1, rfl⟩
        · walk_at "pd"
          rw [show (gs.map fun e => shD (shG e)) = (gs.map shG).map shD from by rw [List.map_map]; rfl]
          refine ⟨gs.map shG, xs, rfl, by rw [List.length_map]; omega, l16, js, ls, fun r e => ?_, fun k e => ?_⟩
          · exact hP gs xs r (by simp only [e]) rfl rfl e
          · have := hX (by
              simp only [e]
              intro z
              cases z)
            simp only [e] at this
            exact this
    · have e : st.isTup = false := by simpa using z
      walk_at "pd"
      refine sx_raise1 T.x_BadScript.o T.nx_BadScript_part ?_
      walk_at "pd"
      exact ⟨_, rfl, bad fun ys e2 => by rw [e2] at e; cases e⟩
def F_fitting_script {K : PySem.W.Frag} {mg : Str → Option Value} (T : Txt K mg) : FX := fun ds P _ => ∃ (n : Int) (m : Nat) (xs gs : List D) (st : D) (r : List Sh), ds = [.tup (gd T.k_Grid.C n xs :: gs), st, .tup (r.map shD)] ∧ Grd n m xs ∧ P (scD T.k_Script.C (.tup (gd T.k_Grid.C n xs :: gs)) st r)
theorem len_fitting_script {K : PySem.W.Frag} {mg : Str → Option Value} (T : Txt K mg) : ∀ ds P X, (F_fitting_script T) ds P X → ds.length = 3 := by (intro ds P X h; first | exact h | (obtain ⟨_, rfl, _⟩ := h; rfl) | (obtain ⟨_, _, rfl, _⟩ := h; rfl) | (obtain ⟨_, _, _, rfl, _⟩ := h; rfl) | (obtain ⟨_, _, _, _, rfl, _⟩ := h; rfl) | (obtain ⟨_, _, _, _, _, rfl, _⟩ := h; rfl) | (obtain ⟨_, _, _, _, _, _, rfl, _⟩ := h; rfl) | (obtain ⟨_, _, _, _, _, _, _, rfl, _⟩ := h; rfl) | (obtain ⟨_, _, _, _, _, _, _, _, rfl, _⟩ := h; rfl) | (obtain ⟨_, _, _, _, _, _, _, _, _, rfl, _⟩ := h; rfl) | (obtain ⟨_, _, _, _, _, _, _, _, _, _, rfl, _⟩ := h; rfl) | (obtain ⟨_, _, _, _, _, _, _, _, _, _, _, rfl, _⟩ := h; rfl) | (obtain ⟨_, _, _, _, _, _, _, _, _, _, _, _, rfl, _⟩ := h; rfl) | (obtain ⟨_, _, _, _, _, _, _, _, _, _, _, _, _, rfl, _⟩ := h; rfl) | (obtain ⟨rfl, _⟩ := h; rfl))
theorem ok_fitting_script (T : Txt K mg) : FnOk Pg T.w0 K mg base (L2.CX Pg T.w0) 8 T.D_fitting_script.f T.D_fitting_script.d ["grids", "steps", "shapes"] ((spX K (F_fitting_script T))) := by
  have G_Script___init__ := ok_Script___init__ (Pg := Pg) (base := base) T
  refine T.D_fitting_script.F.okX (k := 7) sc_fitting_script (spX_len (len_fitting_script T)) (fun cdv A outer s H vs Q E hr h => ?_)
  refine ⟨_, (pss_cons (ps_set (i := 3) sc_fitting_script.nd rfl (by first | exact Or.inl rfl | exact Or.inr rfl) (pe_makeS T.k_Script.m G_Script___init__ (hr.mono (by decide)) (by rfl) T.k_Script.g T.D_Script___init__.b (fun σ => passAt (takes_of rfl rfl rfl rfl) σ) (pa_cons (pe_slice (sl_tupAK (K := K) rfl) (pv 0) po_none (po_some pe_int)) (pa_cons (pe_tup pa_nil) pa_nil))))
    (pss_cons (ps_fld (pv 3) (pv 0) (by rfl))
    (pss_cons (ps_fld (pv 3) (pv 1) (by rfl))
    (pss_cons (ps_fld (pv 3) (pv 2) (by rfl))
    (pss_one (ps_ret (pv 3))))))), ?_⟩
  try dsimp only [cxOf, Cx.blk, Cx.nox, Cx.wish]
  refine body_fit h rfl (by decide) (by decide) (by decide) fun W ds P X eK f => ?_
  subst eK
  obtain ⟨n, m, xs, gs, st, r, rfl, g, hP⟩ := f
  have oG := T.k_Grid.o
  have jg : Jd W.K (.tup [gd T.k_Grid.C n xs]) := by
    simp only [Jd, JdA, and_true]
    exact oG
  refine ⟨_, _, _, rfl, T.k_Script.o.cl, T.na_Script_grids, T.na_Script_steps, T.na_Script_shapes, hP, ?_⟩
  walk_at "pd"
  refine ⟨_, rfl, ?_⟩
  walk_at "pd"
  refine ⟨_, rfl, ?_⟩
  walk_at "pd"
  have e1 : cutD (gd T.k_Grid.C n xs :: gs) none (some 1) = [gd T.k_Grid.C n xs] := cutD_lo (gd T.k_Grid.C n xs :: gs) 1
  rw [e1]
  have hw : wrongS (.tup [gd T.k_Grid.C n xs]) (.tup []) = .non := wrongS_good (C := T.k_Grid.C) (n := n) (r := [shG (gd T.k_Grid.C n xs)]) (by simp) (by simp) (fun e he => ⟨xs, List.mem_singleton.mp he⟩) (by decide) rfl
  refine ⟨_, _, rfl, rfl, jg, by show (1 : Int) ≤ 1000; decide, okIns2_tup fun e he => ?_, by simp only [Jd, JdA], by show (0 : Int) ≤ 1000; decide, fun xs e x hx => ?_, fun gs2 xs2 r2 _ _ _ _ => rfl, fun hn => hn hw⟩
  · rw [List.mem_singleton.mp he]
    exact okIns_gd g
  · cases e
    cases hx
def F__is_order (K : PySem.W.Frag) : FD := fun ds P => ∃ (x : D) (n : Nat), ds = [x, .int (n : Int)] ∧ Jd K x ∧ x.len ≤ 60 ∧ n ≤ 1000 ∧ P (.bl (isOrd n x))
theorem len__is_order (K : PySem.W.Frag) : ∀ ds P, (F__is_order K) ds P → ds.length = 2 := by (intro ds P h; first | exact h | (obtain ⟨_, rfl, _⟩ := h; rfl) | (obtain ⟨_, _, rfl, _⟩ := h; rfl) | (obtain ⟨_, _, _, rfl, _⟩ := h; rfl) | (obtain ⟨_, _, _, _, rfl, _⟩ := h; rfl) | (obtain ⟨_, _, _, _, _, rfl, _⟩ := h; rfl) | (obtain ⟨_, _, _, _, _, _, rfl, _⟩ := h; rfl) | (obtain ⟨_, _, _, _, _, _, _, rfl, _⟩ := h; rfl) | (obtain ⟨_, _, _, _, _, _, _, _, rfl, _⟩ := h; rfl) | (obtain ⟨_, _, _, _, _, _, _, _, _, rfl, _⟩ := h; rfl) | (obtain ⟨_, _, _, _, _, _, _, _, _, _, rfl, _⟩ := h; rfl) | (obtain ⟨_, _, _, _, _, _, _, _, _, _, _, rfl, _⟩ := h; rfl) | (obtain ⟨_, _, _, _, _, _, _, _, _, _, _, _, rfl, _⟩ := h; rfl) | (obtain ⟨_, _, _, _, _, _, _, _, _, _, _, _, _, rfl, _⟩ := h; rfl) | (obtain ⟨rfl, _⟩ := h; rfl))
theorem ok__is_order (T : Txt K mg) : FnOk Pg T.w0 K mg base CX0 2 T.D__is_order.f T.D__is_order.d ["thing", "many"] ((spD K (F__is_order K))) := by
  have G_is_whole := ok_is_whole (Pg := Pg) (base := base) T
  refine T.D__is_order.F.ok (k := 1) sc__is_order (spD_len (len__is_order K)) (fun cdv A outer s H vs Q E hr h => ?_)
  refine ⟨_, (pss_cons (ps_if (PW.pt (pw_or (pt_not (pt_val (pe_callB (call_isiK' (K := K) rfl) (by rfl) T.n_isinstance (by decide +kernel) (pa_cons (pv 0) (pa_cons (pe_bltn (v := .ty "tuple") (u := .type "tuple") (by rfl) T.n_tuple (by decide +kernel) rfl) pa_nil))))) (pw_or1 (pt_not (pt_val (pe_callB (cr_allK (K := K) rfl rfl) (by rfl) T.n_all (by decide +kernel) (pa_cons (pe_lc (own := [("number", 2)]) rfl sc__is_order.nd (pi_seqK (K := K) rfl (pv 0)) (blkOk_by (N := ["thing", "many", "number"]) (sc := defScope s__is_order) (by decide +kernel)) (fun _ _ _ _ _ => (pg_name (i := 2) sc__is_order.nd rfl (by first | exact Or.inl rfl | exact Or.inr rfl))) (fun _ _ _ _ _ => pts_nil) (fun _ _ _ _ _ => (pe_call G_is_whole (hr.mono (by decide)) (by rfl) T.D_is_whole.g T.D_is_whole.F.kp T.D_is_whole.b .nil pass0 (pa_cons (pv 2) pa_nil)))) pa_nil)))))))
      (pss_one (ps_ret pe_bl))
      pss_nil)
    (pss_one (ps_ret (pe_cmpR (op_eqDK (K := K) rfl (hr_u hr)) (pe_callB (cr_srtTK (K := K) rfl) (by rfl) T.n_sorted (by decide +kernel) (pa_cons (pv 0) pa_nil)) (pe_listRg rfl (by rfl) T.n_list (prg_1 (by rfl) T.n_range (pv 1))) (nomark _))))), ?_⟩
  try dsimp only [cxOf, Cx.blk, Cx.nox, Cx.wish]
  (refine body_of h fun W ds P eK f => ?_); subst eK
  obtain ⟨x, n, rfl, jx, lx, hn, hP⟩ := f
  walk_at "pd"
  refine rc_isiTJ (jd_ty jx) ?_
  refine ⟨_, rfl, fun z => ?_, fun z => ?_⟩
  rotate_left
  · have e : x.isTup = false := by simpa using z
    have e2 : isOrd n x = false := by cases x <;> first | rfl | cases e
    rw [e2] at hP
    walk_at "pd"
    exact hP
  have e : x.isTup = true := by simpa using z
  obtain ⟨xs, rfl⟩ := tup_of e
  have lx : (xs.length : Int) ≤ 60 := lx
  simp only [Jd] at jx
  walk_at "pd"
  refine ev_lcM xs (fun y => y) (fun y => .bl y.isInt) (it_seqT (ev_var rfl ⟨_, rfl, by rw [List.map_id'], by omega, fun i y hy => ⟨_, by simp, gd_name ?_⟩, ?_⟩))
  · walk_at "pd"
    exact ⟨_, rfl, jd_ty (jd_mem jx (List.mem_of_getElem? hy)), rfl⟩
  have e1 : (xs.map fun y => D.bl y.isInt) = (xs.map D.isInt).map .bl := by rw [List.map_map]; rfl
  rw [e1]
  walk_at "pd"
  refine rc_all ?_
  have e2 : (xs.map D.isInt).all id = (intsOf xs).isSome := by
    rw [← intsOf_all, List.all_map]
    rfl
  rw [e2]
  rw [isOrd_tup] at hP
  cases ei : intsOf xs with
  | none =>
    rw [ei] at hP
    refine ⟨_, rfl, fun _ => ?_, fun z => (by cases z)⟩
    walk_at "pd"
    exact hP
  | some l =>
    rw [ei] at hP
    refine ⟨_, rfl, fun z => (by cases z), fun _ => ?_⟩
    have el := intsOf_some ei
    subst el
    rw [List.length_map] at lx
    walk_at "pd"
    refine rc_srtT (by omega) fun os p1 p2 => ?_
    refine ev_ofF (ev_lstRg ?_)
    walk_at "pd"
    refine ⟨n, rfl, by omega, rd_srt (δ := []) p1 p2 hP⟩
def F_many_grids {K : PySem.W.Frag} {mg : Str → Option Value} (T : Txt K mg) : FD := fun ds P => ∃ (g st : D) (r : List Sh), ds = [scD T.k_Script.C g st r] ∧ P (.int r.length)
theorem len_many_grids {K : PySem.W.Frag} {mg : Str → Option Value} (T : Txt K mg) : ∀ ds P, (F_many_grids T) ds P → ds.length = 1 := by (intro ds P h; first | exact h | (obtain ⟨_, rfl, _⟩ := h; rfl) | (obtain ⟨_, _, rfl, _⟩ := h; rfl) | (obtain ⟨_, _, _, rfl, _⟩ := h; rfl) | (obtain ⟨_, _, _, _, rfl, _⟩ := h; rfl) | (obtain ⟨_, _, _, _, _, rfl, _⟩ := h; rfl) | (obtain ⟨_, _, _, _, _, _, rfl, _⟩ := h; rfl) | (obtain ⟨_, _, _, _, _, _, _, rfl, _⟩ := h; rfl) | (obtain ⟨_, _, _, _, _, _, _, _, rfl, _⟩ := h; rfl) | (obtain ⟨_, _, _, _, _, _, _, _, _, rfl, _⟩ := h; rfl) | (obtain ⟨_, _, _, _, _, _, _, _, _, _, rfl, _⟩ := h; rfl) | (obtain ⟨_, _, _, _, _, _, _, _, _, _, _, rfl, _⟩ := h; rfl) | (obtain ⟨_, _, _, _, _, _, _, _, _, _, _, _, rfl, _⟩ := h; rfl) | (obtain ⟨_, _, _, _, _, _, _, _, _, _, _, _, _, rfl, _⟩ := h; rfl) | (obtain ⟨rfl, _⟩ := h; rfl))
theorem ok_many_grids (T : Txt K mg) : FnOk Pg T.w0 K mg base CX0 1 T.D_many_grids.f T.D_many_grids.d ["script"] ((spD K (F_many_grids T))) := by
  refine T.D_many_grids.F.ok (k := 0) sc_many_grids (spD_len (len_many_grids T)) (fun cdv A outer s H vs Q E hr h => ?_)
  refine ⟨_, (pss_one (ps_ret (pe_callB (call_lenK (K := K) rfl) (by rfl) T.n_len (by decide +kernel) (pa_cons (pe_fldK (K := K) rfl (pv 0) rfl) pa_nil)))), ?_⟩
  try dsimp only [cxOf, Cx.blk, Cx.nox, Cx.wish]
  (refine body_of h fun W ds P eK f => ?_); subst eK
  obtain ⟨g, st, r, rfl, hP⟩ := f
  walk_at "pd"
  refine ev_fld ?_
  refine ev_var rfl ?_
  refine ⟨_, _, _, _, rfl, T.k_Script.o.cl, T.na_Script_shapes, rfl, ?_⟩
  walk_at "pd"
  rw [List.length_map]
  exact hP
def F__renumbered_step : FD := fun ds P => ∃ (k : Str) (l ns : List Int), ds = [stD k l, .lst (ns.map D.int)] ∧ kindLen.lookup k = some ((l.length : Int) + 1) ∧ (srcs k l).all (okSrc ns.length) = true ∧ P (stD k (renL ns k l))
theorem len__renumbered_step : ∀ ds P, F__renumbered_step ds P → ds.length = 2 := by (intro ds P h; first | exact h | (obtain ⟨_, rfl, _⟩ := h; rfl) | (obtain ⟨_, _, rfl, _⟩ := h; rfl) | (obtain ⟨_, _, _, rfl, _⟩ := h; rfl) | (obtain ⟨_, _, _, _, rfl, _⟩ := h; rfl) | (obtain ⟨_, _, _, _, _, rfl, _⟩ := h; rfl) | (obtain ⟨_, _, _, _, _, _, rfl, _⟩ := h; rfl) | (obtain ⟨_, _, _, _, _, _, _, rfl, _⟩ := h; rfl) | (obtain ⟨_, _, _, _, _, _, _, _, rfl, _⟩ := h; rfl) | (obtain ⟨_, _, _, _, _, _, _, _, _, rfl, _⟩ := h; rfl) | (obtain ⟨_, _, _, _, _, _, _, _, _, _, rfl, _⟩ := h; rfl) | (obtain ⟨_, _, _, _, _, _, _, _, _, _, _, rfl, _⟩ := h; rfl) | (obtain ⟨_, _, _, _, _, _, _, _, _, _, _, _, rfl, _⟩ := h; rfl) | (obtain ⟨_, _, _, _, _, _, _, _, _, _, _, _, _, rfl, _⟩ := h; rfl) | (obtain ⟨rfl, _⟩ := h; rfl))
theorem ok__renumbered_step (T : Txt K mg) : FnOk Pg T.w0 K mg base CX0 2 T.D__renumbered_step.f T.D__renumbered_step.d ["step", "numbers"] ((spD K F__renumbered_step)) := by
  have G_sources := ok_sources (Pg := Pg) (base := base) T
  refine T.D__renumbered_step.F.ok (k := 1) sc__renumbered_step (spD_len (len__renumbered_step)) (fun cdv A outer s H vs Q E hr h => ?_)
  refine ⟨_, (pss_cons (ps_set (i := 2) sc__renumbered_step.nd rfl (by first | exact Or.inl rfl | exact Or.inr rfl) (pe_callTy (call_tuple_ofK (K := K) rfl) (by rfl) T.n_tuple (by decide +kernel) (pa_cons (pe_lc (own := [("number", 3)]) rfl sc__renumbered_step.nd (pi_seqK (K := K) rfl (pe_call G_sources (hr.mono (by decide)) (by rfl) T.D_sources.g T.D_sources.F.kp T.D_sources.b .nil pass0 (pa_cons (pv 0) pa_nil))) (blkOk_by (N := ["step", "numbers", "named", "number"]) (sc := defScope s__renumbered_step) (by decide +kernel)) (fun _ _ _ _ _ => (pg_name (i := 3) sc__renumbered_step.nd rfl (by first | exact Or.inl rfl | exact Or.inr rfl))) (fun _ _ _ _ _ => pts_nil) (fun _ _ _ _ _ => (pe_ix (ix_seqK (K := K) rfl) (pv 1) (pv 3) (fun _ _ => rfl)))) pa_nil)))
    (pss_one (ps_ret (pe_op (op_plusK (K := K) rfl) (pe_op (op_plusK (K := K) rfl) (pe_slice (sl_tupAK (K := K) rfl) (pv 0) po_none (po_some pe_int)) (pv 2)) (pe_slice (sl_tupAK (K := K) rfl) (pv 0) (po_some (pe_op (op_plusK (K := K) rfl) pe_int (pe_callB (call_lenK (K := K) rfl) (by rfl) T.n_len (by decide +kernel) (pa_cons (pv 2) pa_nil)))) po_none))))), ?_⟩
  try dsimp only [cxOf, Cx.blk, Cx.nox, Cx.wish]
  (refine body_of h fun W ds P eK f => ?_); subst eK
  obtain ⟨k, l, ns, rfl, hk, hall, hP⟩ := f
  obtain ⟨l1, l2, le⟩ := srcs_len hk
  have l5 : l.length ≤ 5 := by
    rcases kind_cases hk with ⟨_, h⟩ | ⟨_, h⟩ | ⟨_, h⟩ | ⟨_, h⟩ | ⟨_, h⟩ | ⟨_, h⟩ | ⟨_, h⟩ <;> omega
  walk_at "pd"
  refine ev_lcM (srcs k l) D.int (fun a => .int (ns.getD a.toNat 0)) (it_seqT ?_)
  walk_at "pd"
  refine ⟨k, l, _, rfl, hk, ?_⟩
  refine ⟨_, rfl, rfl, by omega, fun i a ha => ⟨_, by simp, gd_name ?_⟩, ?_⟩
  · have ok := List.all_eq_true.mp hall a (List.mem_of_getElem? ha)
    unfold okSrc at ok
    simp only [Bool.and_eq_true, decide_eq_true_eq] at ok
    walk_at "pd"
    refine rd_ixL (j := a.toNat) (by omega) ?_ rfl
    have lt : a.toNat < ns.length := by omega
    rw [List.getElem?_map, List.getElem?_eq_getElem lt, List.getD_eq_getElem?_getD, List.getElem?_eq_getElem lt]
    rfl
  walk_at "pd"
  have ln : ((srcs k l).map fun a => D.int (ns.getD a.toNat 0)).length = (srcs k l).length := List.length_map _
  refine ⟨_, rfl, ?_⟩
  walk_at "pd"
  refine ⟨_, rfl, ?_⟩
  walk_at "pd"
  have ec : PD.cutD (D.str k :: l.map D.int) none (some 1) = [D.str k] := cutD_lo _ 1
  rw [ec]
  refine rd_plusT (by rw [ln]; show 1 + _ ≤ 100000; omega) ?_
  walk_at "pd"
  refine ⟨_, rfl, ?_⟩
  walk_at "pd"
  refine ⟨_, rfl, ?_⟩
  walk_at "pd"
  rw [ln]
  have ec2 : PD.cutD (D.str k :: l.map D.int) (some (1 + ((srcs k l).length : Int))) none = (l.drop (srcs k l).length).map D.int := by
    rw [show (1 : Int) + ((srcs k l).length : Int) = ((1 + (srcs k l).length : Nat) : Int) from by omega, cutD_hi, Nat.add_comm, List.drop_succ_cons, List.map_drop]
  rw [ec2]
  refine rd_plusT (by rw [List.length_append, ln, List.length_map, List.length_drop]; show 1 + _ + _ ≤ 100000; omega) ?_
  have e3 : D.tup ([D.str k] ++ ((srcs k l).map fun a => D.int (ns.getD a.toNat 0)) ++ (l.drop (srcs k l).length).map D.int) = stD k (renL ns k l) := by
    unfold stD renL
    rw [List.map_append, List.map_map]
    rfl
  rw [e3]
  exact hP
theorem ok_GridError___init__ (T : Txt K mg) : FnOk Pg T.w0 K mg base CX0 1 T.D_GridError___init__.f T.D_GridError___init__.d ["self"] (spI0 K) := by
  refine T.D_GridError___init__.F.ok (k := 0) sc_GridError___init__ (fun vs H Q E h => by obtain ⟨_, _, rfl, _⟩ := h; rfl) (fun cdv A outer s H vs Q E hr h => ?_)
  refine ⟨_, (pss_one (ps_expr (pe_veinit (by rfl) T.n_ValueError T.v_VE (pa_cons (pv 0) pa_nil)))), ?_⟩
  try dsimp only [cxOf, Cx.blk, Cx.nox, Cx.wish]
  exact init0_body h
def F_renamed {K : PySem.W.Frag} {mg : Str → Option Value} (T : Txt K mg) : FX := fun ds P X => ∃ (gs : List D) (sts : List (Str × List Int)) (r : List Sh) (x : D), ds = [scD T.k_Script.C (.tup gs) (.tup (sts.map fun s => stD s.1 s.2)) r, x] ∧ 1 ≤ gs.length ∧ gs.length ≤ 6 ∧ sts.length ≤ 16 ∧ r.length = gs.length + sts.length ∧ (∀ e ∈ gs, ∃ n m xs, e = gd T.k_Grid.C n xs ∧ Grd n m xs) ∧
  (∀ s ∈ sts, kindLen.lookup s.1 = some ((s.2.length : Int) + 1) ∧ (srcs s.1 s.2).all (okSrc r.length) = true) ∧ Jd K x ∧ x.len ≤ 60 ∧ (isOrd gs.length x = false → X (T.x_NoOrder.C, [])) ∧
  (∀ l : List Int, x = .tup (l.map D.int) → l.Perm (rgI gs.length) → P (scD T.k_Script.C (.tup (l.map fun o => gs.getD o.toNat .non)) (.tup (sts.map fun s => stD s.1 (renL (numsO r.length l l.length) s.1 s.2))) (l.map (shAt r) ++ r.drop gs.length)))
theorem len_renamed {K : PySem.W.Frag} {mg : Str → Option Value} (T : Txt K mg) : ∀ ds P X, (F_renamed T) ds P X → ds.length = 2 := by (intro ds P X h; first | exact h | (obtain ⟨_, rfl, _⟩ := h; rfl) | (obtain ⟨_, _, rfl, _⟩ := h; rfl) | (obtain ⟨_, _, _, rfl, _⟩ := h; rfl) | (obtain ⟨_, _, _, _, rfl, _⟩ := h; rfl) | (obtain ⟨_, _, _, _, _, rfl, _⟩ := h; rfl) | (obtain ⟨_, _, _, _, _, _, rfl, _⟩ := h; rfl) | (obtain ⟨_, _, _, _, _, _, _, rfl, _⟩ := h; rfl) | (obtain ⟨_, _, _, _, _, _, _, _, rfl, _⟩ := h; rfl) | (obtain ⟨_, _, _, _, _, _, _, _, _, rfl, _⟩ := h; rfl) | (obtain ⟨_, _, _, _, _, _, _, _, _, _, rfl, _⟩ := h; rfl) | (obtain ⟨_, _, _, _, _, _, _, _, _, _, _, rfl, _⟩ := h; rfl) | (obtain ⟨_, _, _, _, _, _, _, _, _, _, _, _, rfl, _⟩ := h; rfl) | (obtain ⟨_, _, _, _, _, _, _, _, _, _, _, _, _, rfl, _⟩ := h; rfl) | (obtain ⟨rfl, _⟩ := h; rfl))
theorem ok_renamed (T : Txt K mg) : FnOk Pg T.w0 K mg base (L2.CX Pg T.w0) 9 T.D_renamed.f T.D_renamed.d ["script", "order"] ((spX K (F_renamed T))) := by
  have G_GridError___init__ := ok_GridError___init__ (Pg := Pg) (base := base) T
  have G__is_order := ok__is_order (Pg := Pg) (base := base) T
  have G__renumbered_step := ok__renumbered_step (Pg := Pg) (base := base) T
  have G_fitting_script := ok_fitting_script (Pg := Pg) (base := base) T
  have G_many_grids := ok_many_grids (Pg := Pg) (base := base) T
  refine T.D_renamed.F.okX (k := 8) sc_renamed (spX_len (len_renamed T)) (fun cdv A outer s H vs Q E hr h => ?_)
  refine ⟨_, (pss_cons (ps_set (i := 2) sc_renamed.nd rfl (by first | exact Or.inl rfl | exact Or.inr rfl) (pe_callB (call_lenK (K := K) rfl) (by rfl) T.n_len (by decide +kernel) (pa_cons (pe_fldK (K := K) rfl (pv 0) rfl) pa_nil)))
    (pss_cons (ps_if (pt_not (pt_val (pe_call G__is_order (hr.mono (by decide)) (by rfl) T.D__is_order.g T.D__is_order.F.kp T.D__is_order.b .nil pass0 (pa_cons (pv 1) (pa_cons (pv 2) pa_nil)))))
      (pss_one (ps_raise rfl (takes_of rfl rfl rfl rfl) (pmk_oe0 T.x_NoOrder.o T.x_NoOrder.i T.ty_GridError___init__ G_GridError___init__ (hr.mono (by decide)) T.D_GridError___init__.b pass0 (by rfl) T.x_NoOrder.g)))
      pss_nil)
    (pss_cons (ps_set (i := 3) sc_renamed.nd rfl (by first | exact Or.inl rfl | exact Or.inr rfl) (pe_listRg rfl (by rfl) T.n_list (prg_1 (by rfl) T.n_range (pe_call G_many_grids (hr.mono (by decide)) (by rfl) T.D_many_grids.g T.D_many_grids.F.kp T.D_many_grids.b .nil pass0 (pa_cons (pv 0) pa_nil)))))
    (pss_cons (ps_for (passes_of rfl) rfl (pi_enumT (K := K) rfl (by rfl) T.n_enumerate (pa_cons (pv 1) pa_nil)) (by exact (pg_tupK (K := K) (n := 2) rfl rfl (pgs_cons (pg_name (i := 7) sc_renamed.nd rfl (by first | exact Or.inl rfl | exact Or.inr rfl)) (pgs_cons (pg_name (i := 8) sc_renamed.nd rfl (by first | exact Or.inl rfl | exact Or.inr rfl)) pgs_nil))))
      (pss_one (ps_asg (pv 7) (pg_sub (pv 3) (pv 8) set_list))))
    (pss_cons (ps_set (i := 4) sc_renamed.nd rfl (by first | exact Or.inl rfl | exact Or.inr rfl) (pe_callTy (call_tuple_ofK (K := K) rfl) (by rfl) T.n_tuple (by decide +kernel) (pa_cons (pe_lc (own := [("step", 9)]) rfl sc_renamed.nd (pi_seqK (K := K) rfl (pe_fldK (K := K) rfl (pv 0) rfl)) (blkOk_by (N := ["script", "order", "many", "numbers", "steps", "grids", "shapes", "new", "old", "step"]) (sc := defScope s_renamed) (by decide +kernel)) (fun _ _ _ _ _ => (pg_name (i := 9) sc_renamed.nd rfl (by first | exact Or.inl rfl | exact Or.inr rfl))) (fun _ _ _ _ _ => pts_nil) (fun _ _ _ _ _ => (pe_call G__renumbered_step (hr.mono (by decide)) (by rfl) T.D__renumbered_step.g T.D__renumbered_step.F.kp T.D__renumbered_step.b .nil pass0 (pa_cons (pv 9) (pa_cons (pv 3) pa_nil))))) pa_nil)))
    (pss_cons (ps_set (i := 5) sc_renamed.nd rfl (by first | exact Or.inl rfl | exact Or.inr rfl) (pe_callTy (call_tuple_ofK (K := K) rfl) (by rfl) T.n_tuple (by decide +kernel) (pa_cons (pe_lc (own := [("old", 8)]) rfl sc_renamed.nd (pi_seqK (K := K) rfl (pv 1)) (blkOk_by (N := ["script", "order", "many", "numbers", "steps", "grids", "shapes", "new", "old", "step"]) (sc := defScope s_renamed) (by decide +kernel)) (fun _ _ _ _ _ => (pg_name (i := 8) sc_renamed.nd rfl (by first | exact Or.inl rfl | exact Or.inr rfl))) (fun _ _ _ _ _ => pts_nil) (fun _ _ _ _ _ => (pe_ix (ix_seqK (K := K) rfl) (pe_fldK (K := K) rfl (pv 0) rfl) (pv 8) (fun _ _ => rfl)))) pa_nil)))
    (pss_cons (ps_set (i := 6) sc_renamed.nd rfl (by first | exact Or.inl rfl | exact Or.inr rfl) (pe_op (op_plusK (K := K) rfl) (pe_callTy (call_tuple_ofK (K := K) rfl) (by rfl) T.n_tuple (by decide +kernel) (pa_cons (pe_lc (own := [("old", 8)]) rfl sc_renamed.nd (pi_seqK (K := K) rfl (pv 1)) (blkOk_by (N := ["script", "order", "many", "numbers", "steps", "grids", "shapes", "new", "old", "step"]) (sc := defScope s_renamed) (by decide +kernel)) (fun _ _ _ _ _ => (pg_name (i := 8) sc_renamed.nd rfl (by first | exact Or.inl rfl | exact Or.inr rfl))) (fun _ _ _ _ _ => pts_nil) (fun _ _ _ _ _ => (pe_ix (ix_seqK (K := K) rfl) (pe_fldK (K := K) rfl (pv 0) rfl) (pv 8) (fun _ _ => rfl)))) pa_nil)) (pe_slice (sl_tupAK (K := K) rfl) (pe_fldK (K := K) rfl (pv 0) rfl) (po_some (pv 2)) po_none)))
    (pss_one (ps_ret (pe_callS G_fitting_script (hr.mono (by decide)) (by rfl) T.D_fitting_script.g T.D_fitting_script.F.kp T.D_fitting_script.b (fun σ => passAt (takes_of rfl rfl rfl rfl) σ) (pa_cons (pv 5) (pa_cons (pv 4) (pa_cons (pv 6) pa_nil))))))))))))), ?_⟩
  try dsimp only [cxOf, Cx.blk, Cx.nox, Cx.wish]
  refine body_ofXO h fun W ds P X eK f => ?_
  subst eK
  obtain ⟨gs, sts, r, x, rfl, g1, g6, s16, lr, hg, hs, jx, lx, hX, hP⟩ := f
  refine so_seq (so_lift ?_)
  walk_at "pd"
  refine ev_fld ?_
  refine ev_var rfl ?_
  refine ⟨_, _, _, _, rfl, T.k_Script.o.cl, T.na_Script_grids, rfl, ?_⟩
  walk_at "pd"
  refine so_seq (so_if ?_)
  walk_at "pd"
  refine ⟨x, gs.length, rfl, jx, lx, by omega, ?_⟩
  refine ⟨_, rfl, fun q => ?_, fun q => ?_⟩
  · exact so_lift (sx_raise0 T.x_NoOrder.o (hX (by simpa using q)))
  have q : isOrd gs.length x = true := by simpa using q
  obtain ⟨l, rfl, hl⟩ := isOrd_of q
  have hP := hP l rfl hl
  have ll : l.length = gs.length := by rw [hl.length_eq, rgI_len]
  have mem : ∀ o ∈ l, 0 ≤ o ∧ o < gs.length := fun o ho => rgI_mem.mp (hl.mem_iff.mp ho)
  refine so_next ?_
  refine so_seq (so_asgF (ev_lstRg ?_))
  walk_at "pd"
  refine ⟨_, _, r, rfl, r.length, rfl, by omega, fun p fresh => ?_⟩
  refine so_seq (so_for (it_enumT ?_))
  walk_at "pd"
  refine ⟨_, rfl, fun k ω δ => ∃ x7 x8 : Option D, ω = [(p, (numsO r.length l k).map D.int)] ∧ δ = [some (scD T.k_Script.C (.tup gs) (.tup (sts.map fun s => stD s.1 s.2)) r), some (.tup (l.map D.int)), some (.int gs.length), some (.obj p), none, none, none, x7, x8, none], ⟨none, none, ?_, rfl⟩, fun k d ω δ hd hI => ?_, fun ω δ hI => ?_⟩
  · rw [natD_rgI]
    rfl
  · obtain ⟨x7, x8, rfl, rfl⟩ := hI
    obtain ⟨y, hy, rfl⟩ := enumD_get hd
    rw [List.getElem?_map] at hy
    cases ey : l[k]? with
    | none => rw [ey] at hy; cases hy
    | some o =>
      rw [ey] at hy
      cases hy
      obtain ⟨o0, o1⟩ := mem o (List.mem_of_getElem? ey)
      refine ⟨_, gd_tup2 (gd_name (gd_name ?_))⟩
      refine so_set (i := 3) (j := o.toNat) (a := p) rfl List.mem_cons_self ?_
      walk_at "pd"
      refine ⟨by rw [Int.toNat_of_nonneg o0], fun es hes => ?_, ?_⟩
      · rcases List.mem_cons.mp hes with e | e
        · cases e
          rw [List.length_map, numsO_len]
          omega
        · cases e
      · refine ⟨some (.int (k : Int)), some (.int o), ?_, rfl⟩
        have ek : l.getD k 0 = o := by rw [List.getD_eq_getElem?_getD, ey]; rfl
        rw [numsO_succ, ek, List.map_set]
        simp [putO]
  · obtain ⟨x7, x8, rfl, rfl⟩ := hI
    rw [enumD_length, List.length_map]
    refine so_seq (so_asgL (evl_put (a := p) 3 rfl List.mem_cons_self (evl_ev ?_)))
    walk_at "pd"
    refine ev_lcM sts (fun s => stD s.1 s.2) (fun s => stD s.1 (renL (numsO r.length l l.length) s.1 s.2)) (it_seqT ?_)
    walk_at "pd"
    refine ev_fld ?_
    refine ev_var rfl ?_
    refine ⟨_, _, _, _, rfl, T.k_Script.o.cl, T.na_Script_steps, rfl, ?_⟩
    refine ⟨_, rfl, rfl, by omega, fun i s hs2 => ⟨_, by simp, gd_name ?_⟩, ?_⟩
    · obtain ⟨k1, k2⟩ := hs s (List.mem_of_getElem? hs2)
      walk_at "pd"
      exact ⟨s.1, s.2, _, rfl, k1, by rw [numsO_len]; exact k2, rfl⟩
    walk_at "pd"
    refine ⟨nref_tup fun e he => ?_, ?_⟩
    · obtain ⟨s, _, rfl⟩ := List.mem_map.mp he
      refine nref_tup fun z hz => ?_
      rcases List.mem_cons.mp hz with rfl | hz
      · rfl
      · obtain ⟨i, _, rfl⟩ := List.mem_map.mp hz
        rfl
    refine so_lift ?_
    walk_at "pd"
    refine ev_lcM l D.int (fun o => gs.getD o.toNat .non) (it_seqT (ev_var rfl ⟨_, rfl, rfl, by omega, fun i o ho => ⟨_, by simp, gd_name ?_⟩, ?_⟩))
    · obtain ⟨o0, o1⟩ := mem o (List.mem_of_getElem? ho)
      walk_at "pd"
      refine ev_fld ?_
      refine ev_var rfl ?_
      refine ⟨_, _, _, _, rfl, T.k_Script.o.cl, T.na_Script_grids, rfl, ?_⟩
      walk_at "pd"
      refine rd_ixT (j := o.toNat) (by omega) ?_ rfl
      rw [List.getD_eq_getElem?_getD, List.getElem?_eq_getElem (by omega)]
      rfl
    walk_at "pd"
    refine ev_lcM l D.int (fun o => shD (shAt r o)) (it_seqT (ev_var rfl ⟨_, rfl, rfl, by omega, fun i o ho => ⟨_, by simp, gd_name ?_⟩, ?_⟩))
    · obtain ⟨o0, o1⟩ := mem o (List.mem_of_getElem? ho)
      walk_at "pd"
      refine ev_fld ?_
      refine ev_var rfl ?_
      refine ⟨_, _, _, _, rfl, T.k_Script.o.cl, T.na_Script_shapes, rfl, ?_⟩
      walk_at "pd"
      refine rd_ixT (j := o.toNat) (by omega) ?_ rfl
      unfold shAt
      rw [List.getElem?_map, List.getD_eq_getElem?_getD, List.getElem?_eq_getElem (by omega)]
      rfl
    walk_at "pd"
    refine ev_fld ?_
    refine ev_var rfl ?_
    refine ⟨_, _, _, _, rfl, T.k_Script.o.cl, T.na_Script_shapes, rfl, ?_⟩
    refine ⟨_, rfl, ?_⟩
    walk_at "pd"
    refine ⟨_, rfl, ?_⟩
    walk_at "pd"
    rw [cutD_hi]
    refine rd_plusT (by rw [List.length_map, List.length_drop, List.length_map]; omega) ?_
    walk_at "pd"
    obtain ⟨o, l', rfl⟩ : ∃ o l', l = o :: l' := by
      cases l with
      | nil => simp at ll; omega
      | cons o l' => exact ⟨o, l', rfl⟩
    obtain ⟨o0, o1⟩ := mem o List.mem_cons_self
    obtain ⟨n, m, xs, en, g⟩ := hg _ (List.getElem_mem (show o.toNat < gs.length by omega))
    have e0 : gs.getD o.toNat .non = gd T.k_Grid.C n xs := by rw [List.getD_eq_getElem?_getD, List.getElem?_eq_getElem (by omega), ← en]; rfl
    refine ⟨n, m, xs, l'.map (fun o => gs.getD o.toNat .non), .tup (sts.map fun s => stD s.1 (renL (numsO r.length (o :: l') (o :: l').length) s.1 s.2)), (o :: l').map (shAt r) ++ r.drop gs.length, ?_, g, ?_⟩
    · rw [List.map_cons (f := fun o : Int => gs.getD o.toNat D.non), e0, List.map_append, List.map_map, List.map_drop]
      rfl
    · rw [List.map_cons (f := fun o : Int => gs.getD o.toNat D.non), e0] at hP
      exact hP
def F_check_grid {K : PySem.W.Frag} {mg : Str → Option Value} (T : Txt K mg) : FX := fun ds P X => ∃ (g st x : D) (r : List Sh), ds = [scD T.k_Script.C g st r, x] ∧ Jd1 K x ∧ (isIx r.length x = true → P .non) ∧ (isIx r.length x = false → X (T.x_NoGrid.C, []))
theorem len_check_grid {K : PySem.W.Frag} {mg : Str → Option Value} (T : Txt K mg) : ∀ ds P X, (F_check_grid T) ds P X → ds.length = 2 := by (intro ds P X h; first | exact h | (obtain ⟨_, rfl, _⟩ := h; rfl) | (obtain ⟨_, _, rfl, _⟩ := h; rfl) | (obtain ⟨_, _, _, rfl, _⟩ := h; rfl) | (obtain ⟨_, _, _, _, rfl, _⟩ := h; rfl) | (obtain ⟨_, _, _, _, _, rfl, _⟩ := h; rfl) | (obtain ⟨_, _, _, _, _, _, rfl, _⟩ := h; rfl) | (obtain ⟨_, _, _, _, _, _, _, rfl, _⟩ := h; rfl) | (obtain ⟨_, _, _, _, _, _, _, _, rfl, _⟩ := h; rfl) | (obtain ⟨_, _, _, _, _, _, _, _, _, rfl, _⟩ := h; rfl) | (obtain ⟨_, _, _, _, _, _, _, _, _, _, rfl, _⟩ := h; rfl) | (obtain ⟨_, _, _, _, _, _, _, _, _, _, _, rfl, _⟩ := h; rfl) | (obtain ⟨_, _, _, _, _, _, _, _, _, _, _, _, rfl, _⟩ := h; rfl) | (obtain ⟨_, _, _, _, _, _, _, _, _, _, _, _, _, rfl, _⟩ := h; rfl) | (obtain ⟨rfl, _⟩ := h; rfl))
theorem ok_check_grid (T : Txt K mg) : FnOk Pg T.w0 K mg base (L2.CX Pg T.w0) 3 T.D_check_grid.f T.D_check_grid.d ["script", "at"] ((spX K (F_check_grid T))) := by
  have G_GridError___init__ := ok_GridError___init__ (Pg := Pg) (base := base) T
  have G_is_index := ok_is_index (Pg := Pg) (base := base) T
  have G_many_grids := ok_many_grids (Pg := Pg) (base := base) T
  refine T.D_check_grid.F.okX (k := 2) sc_check_grid (spX_len (len_check_grid T)) (fun cdv A outer s H vs Q E hr h => ?_)
  refine ⟨_, (pss_one (ps_if (pt_not (pt_val (pe_call G_is_index (hr.mono (by decide)) (by rfl) T.D_is_index.g T.D_is_index.F.kp T.D_is_index.b .nil pass0 (pa_cons (pv 1) (pa_cons (pe_call G_many_grids (hr.mono (by decide)) (by rfl) T.D_many_grids.g T.D_many_grids.F.kp T.D_many_grids.b .nil pass0 (pa_cons (pv 0) pa_nil)) pa_nil)))))
      (pss_one (ps_raise rfl (takes_of rfl rfl rfl rfl) (pmk_oe0 T.x_NoGrid.o T.x_NoGrid.i T.ty_GridError___init__ G_GridError___init__ (hr.mono (by decide)) T.D_GridError___init__.b pass0 (by rfl) T.x_NoGrid.g)))
      pss_nil)), ?_⟩
  try dsimp only [cxOf, Cx.blk, Cx.nox, Cx.wish]
  (refine body_ofX h fun W ds P X eK f => ?_); subst eK
  obtain ⟨g, st, x, r, rfl, jx, hP, hX⟩ := f
  walk_at "pd"
  refine ⟨g, st, r, rfl, ?_⟩
  walk_at "pd"
  refine ⟨x, _, rfl, jx, ?_⟩
  change ∃ b, D.bl (isIx r.length x) = D.bl b ∧ _
  refine ⟨_, rfl, fun q => ?_, fun q => ?_⟩
  · exact sx_raise0 T.x_NoGrid.o (hX (by simpa using q))
  · walk_at "pd"
    exact hP (by simpa using q)
def F_shape {K : PySem.W.Frag} {mg : Str → Option Value} (T : Txt K mg) : FX := fun ds P X => ∃ (g st x : D) (r : List Sh), ds = [scD T.k_Script.C g st r, x] ∧ Jd1 K x ∧ (isIx r.length x = true → P (shD (shAt r x.toI))) ∧ (isIx r.length x = false → X (T.x_NoGrid.C, []))
theorem len_shape {K : PySem.W.Frag} {mg : Str → Option Value} (T : Txt K mg) : ∀ ds P X, (F_shape T) ds P X → ds.length = 2 := by (intro ds P X h; first | exact h | (obtain ⟨_, rfl, _⟩ := h; rfl) | (obtain ⟨_, _, rfl, _⟩ := h; rfl) | (obtain ⟨_, _, _, rfl, _⟩ := h; rfl) | (obtain ⟨_, _, _, _, rfl, _⟩ := h; rfl) | (obtain ⟨_, _, _, _, _, rfl, _⟩ := h; rfl) | (obtain ⟨_, _, _, _, _, _, rfl, _⟩ := h; rfl) | (obtain ⟨_, _, _, _, _, _, _, rfl, _⟩ := h; rfl) | (obtain ⟨_, _, _, _, _, _, _, _, rfl, _⟩ := h; rfl) | (obtain ⟨_, _, _, _, _, _, _, _, _, rfl, _⟩ := h; rfl) | (obtain ⟨_, _, _, _, _, _, _, _, _, _, rfl, _⟩ := h; rfl) | (obtain ⟨_, _, _, _, _, _, _, _, _, _, _, rfl, _⟩ := h; rfl) | (obtain ⟨_, _, _, _, _, _, _, _, _, _, _, _, rfl, _⟩ := h; rfl) | (obtain ⟨_, _, _, _, _, _, _, _, _, _, _, _, _, rfl, _⟩ := h; rfl) | (obtain ⟨rfl, _⟩ := h; rfl))
theorem ok_shape (T : Txt K mg) : FnOk Pg T.w0 K mg base (L2.CX Pg T.w0) 4 T.D_shape.f T.D_shape.d ["script", "at"] ((spX K (F_shape T))) := by
  have G_check_grid := ok_check_grid (Pg := Pg) (base := base) T
  refine T.D_shape.F.okX (k := 3) sc_shape (spX_len (len_shape T)) (fun cdv A outer s H vs Q E hr h => ?_)
  refine ⟨_, (pss_cons (ps_expr (pe_callS G_check_grid (hr.mono (by decide)) (by rfl) T.D_check_grid.g T.D_check_grid.F.kp T.D_check_grid.b (fun σ => passAt (takes_of rfl rfl rfl rfl) σ) (pa_cons (pv 0) (pa_cons (pv 1) pa_nil))))
    (pss_one (ps_ret (pe_ix (ix_seqK (K := K) rfl) (pe_fldK (K := K) rfl (pv 0) rfl) (pv 1) (fun _ _ => rfl))))), ?_⟩
  try dsimp only [cxOf, Cx.blk, Cx.nox, Cx.wish]
  (refine body_ofX h fun W ds P X eK f => ?_); subst eK
  obtain ⟨g, st, x, r, rfl, jx, hP, hX⟩ := f
  walk_at "pd"
  refine ⟨g, st, x, r, rfl, jx, fun hi => ?_, fun hi => hX hi⟩
  have hP := hP hi
  unfold isIx at hi
  simp only [Bool.and_eq_true, decide_eq_true_eq] at hi
  obtain ⟨i, rfl⟩ := isInt_of hi.1.1
  have h0 : 0 ≤ i := hi.1.2
  have h1 : i < r.length := hi.2
  walk_at "pd"
  refine ev_fld ?_
  refine ev_var rfl ?_
  refine ⟨_, _, _, _, rfl, T.k_Script.o.cl, T.na_Script_shapes, rfl, ?_⟩
  walk_at "pd"
  refine rd_ixT (j := i.toNat) (by omega) ?_ hP
  have lt : i.toNat < r.length := by omega
  rw [List.getElem?_map, List.getElem?_eq_getElem lt]
  show _ = some (shD (r.getD i.toNat (0, 0)))
  simp [lt]
def F_check_cell {K : PySem.W.Frag} {mg : Str → Option Value} (T : Txt K mg) : FX := fun ds P X => ∃ (g st : D) (r : List Sh) (a i j : D), ds = [scD T.k_Script.C g st r, a, i, j] ∧ Jd1 K a ∧ Jd1 K i ∧ Jd1 K j ∧ (isIx r.length a = false → X (T.x_NoGrid.C, [])) ∧ (isIx r.length a = true → (inI i (shAt r a.toI).1 && inI j (shAt r a.toI).2) = false → X (T.x_NoCell.C, [])) ∧ (isIx r.length a = true → (inI i (shAt r a.toI).1 && inI j (shAt r a.toI).2) = true → P .non)
theorem len_check_cell {K : PySem.W.Frag} {mg : Str → Option Value} (T : Txt K mg) : ∀ ds P X, (F_check_cell T) ds P X → ds.length = 4 := by (intro ds P X h; first | exact h | (obtain ⟨_, rfl, _⟩ := h; rfl) | (obtain ⟨_, _, rfl, _⟩ := h; rfl) | (obtain ⟨_, _, _, rfl, _⟩ := h; rfl) | (obtain ⟨_, _, _, _, rfl, _⟩ := h; rfl) | (obtain ⟨_, _, _, _, _, rfl, _⟩ := h; rfl) | (obtain ⟨_, _, _, _, _, _, rfl, _⟩ := h; rfl) | (obtain ⟨_, _, _, _, _, _, _, rfl, _⟩ := h; rfl) | (obtain ⟨_, _, _, _, _, _, _, _, rfl, _⟩ := h; rfl) | (obtain ⟨_, _, _, _, _, _, _, _, _, rfl, _⟩ := h; rfl) | (obtain ⟨_, _, _, _, _, _, _, _, _, _, rfl, _⟩ := h; rfl) | (obtain ⟨_, _, _, _, _, _, _, _, _, _, _, rfl, _⟩ := h; rfl) | (obtain ⟨_, _, _, _, _, _, _, _, _, _, _, _, rfl, _⟩ := h; rfl) | (obtain ⟨_, _, _, _, _, _, _, _, _, _, _, _, _, rfl, _⟩ := h; rfl) | (obtain ⟨rfl, _⟩ := h; rfl))
theorem ok_check_cell (T : Txt K mg) : FnOk Pg T.w0 K mg base (L2.CX Pg T.w0) 4 T.D_check_cell.f T.D_check_cell.d ["script", "at", "i", "j"] ((spX K (F_check_cell T))) := by
  have G_GridError___init__ := ok_GridError___init__ (Pg := Pg) (base := base) T
  have G_check_grid := ok_check_grid (Pg := Pg) (base := base) T
  have G_is_index := ok_is_index (Pg := Pg) (base := base) T
  refine T.D_check_cell.F.okX (k := 3) sc_check_cell (spX_len (len_check_cell T)) (fun cdv A outer s H vs Q E hr h => ?_)
  refine ⟨_, (pss_cons (ps_expr (pe_callS G_check_grid (hr.mono (by decide)) (by rfl) T.D_check_grid.g T.D_check_grid.F.kp T.D_check_grid.b (fun σ => passAt (takes_of rfl rfl rfl rfl) σ) (pa_cons (pv 0) (pa_cons (pv 1) pa_nil))))
    (pss_cons (ps_asg (pe_ix (ix_seqK (K := K) rfl) (pe_fldK (K := K) rfl (pv 0) rfl) (pv 1) (fun _ _ => rfl)) (by exact (pg_tupK (K := K) (n := 2) rfl rfl (pgs_cons (pg_name (i := 4) sc_check_cell.nd rfl (by first | exact Or.inl rfl | exact Or.inr rfl)) (pgs_cons (pg_name (i := 5) sc_check_cell.nd rfl (by first | exact Or.inl rfl | exact Or.inr rfl)) pgs_nil)))))
    (pss_one (ps_if (PW.pt (pw_or (pt_not (pt_val (pe_call G_is_index (hr.mono (by decide)) (by rfl) T.D_is_index.g T.D_is_index.F.kp T.D_is_index.b .nil pass0 (pa_cons (pv 2) (pa_cons (pv 4) pa_nil))))) (pw_or1 (pt_not (pt_val (pe_call G_is_index (hr.mono (by decide)) (by rfl) T.D_is_index.g T.D_is_index.F.kp T.D_is_index.b .nil pass0 (pa_cons (pv 3) (pa_cons (pv 5) pa_nil))))))))
      (pss_one (ps_raise rfl (takes_of rfl rfl rfl rfl) (pmk_oe0 T.x_NoCell.o T.x_NoCell.i T.ty_GridError___init__ G_GridError___init__ (hr.mono (by decide)) T.D_GridError___init__.b pass0 (by rfl) T.x_NoCell.g)))
      pss_nil)))), ?_⟩
  try dsimp only [cxOf, Cx.blk, Cx.nox, Cx.wish]
  (refine body_ofX h fun W ds P X eK f => ?_); subst eK
  obtain ⟨g, st, r, a, i, j, rfl, ja, ji, jj, hX, hY, hP⟩ := f
  walk_at "pd"
  refine ⟨g, st, a, r, rfl, ja, fun q => ?_, fun q => hX q⟩
  have hY := hY q
  have hP := hP q
  obtain ⟨x, rfl, hx⟩ : ∃ x : Nat, a = .int (x : Int) ∧ x < r.length := by
    unfold isIx at q
    simp only [Bool.and_eq_true, decide_eq_true_eq] at q
    obtain ⟨⟨q1, q2⟩, q3⟩ := q
    obtain ⟨v, rfl⟩ := isInt_of q1
    obtain ⟨x, rfl⟩ := Int.eq_ofNat_of_zero_le (show 0 ≤ v from q2)
    exact ⟨x, rfl, by have : (x : Int) < r.length := q3; omega⟩
  have ex : (r.map shD)[x]? = some (shD (shAt r (x : Int))) := by
    unfold shAt
    rw [Int.toNat_natCast, List.getElem?_map, List.getD_eq_getElem?_getD, List.getElem?_eq_getElem (by omega)]
    rfl
  have hY : (inI i (shAt r (x : Int)).1 && inI j (shAt r (x : Int)).2) = false → X (T.x_NoCell.C, []) := hY
  have hP : (inI i (shAt r (x : Int)).1 && inI j (shAt r (x : Int)).2) = true → P .non := hP
  generalize shAt r (x : Int) = sh at ex hP hY
  unfold shD at ex
  walk_at "pd"
  refine sd_asgG (js := [4, 5]) ?_
  walk_at "pd"
  refine ev_fld ?_
  refine ev_var rfl ?_
  refine ⟨_, _, _, _, rfl, T.k_Script.o.cl, T.na_Script_shapes, rfl, ?_⟩
  walk_at "pd"
  refine rd_ixT (j := x) (by omega) ex ?_
  refine gd_tup2 (gd_name (gd_name ?_))
  walk_at "pd"
  refine ⟨_, _, rfl, ji, ?_⟩
  change ∃ b, D.bl (inI i sh.1) = D.bl b ∧ _
  refine ⟨_, rfl, fun z => ?_, fun z => ?_⟩
  · have z : inI i sh.1 = true := by simpa using z
    rw [z, Bool.true_and] at hP hY
    walk_at "pd"
    refine ⟨_, _, rfl, jj, ?_⟩
    change ∃ b, D.bl (inI j sh.2) = D.bl b ∧ _
    refine ⟨_, rfl, fun z => ?_, fun z => ?_⟩
    · exact sx_raise0 T.x_NoCell.o (hY (by simpa using z))
    · walk_at "pd"
      exact hP (by simpa using z)
  · have z : inI i sh.1 = false := by simpa using z
    rw [z, Bool.false_and] at hY
    walk_at "pd"
    exact sx_raise0 T.x_NoCell.o (hY rfl)
def F_Cells___init__ {K : PySem.W.Frag} {mg : Str → Option Value} (T : Txt K mg) : FI := fun C ds P _ => C = T.k_Cells.C ∧ ds = [] ∧ P ["nought"] [.bl false]
theorem len_Cells___init__ {K : PySem.W.Frag} {mg : Str → Option Value} (T : Txt K mg) : ∀ C ds P X, (F_Cells___init__ T) C ds P X → ds.length + 1 = 1 := by (intro C ds P X h; first | exact congrArg (· + 1) h | (obtain ⟨_, rfl, _⟩ := h; rfl) | (obtain ⟨_, _, rfl, _⟩ := h; rfl) | (obtain ⟨_, _, _, rfl, _⟩ := h; rfl) | (obtain ⟨_, _, _, _, rfl, _⟩ := h; rfl) | (obtain ⟨rfl, _⟩ := h; rfl))
theorem ok_Cells___init__ (T : Txt K mg) : FnOk Pg T.w0 K mg base CX0 1 T.D_Cells___init__.f T.D_Cells___init__.d ["self"] (spInit K (F_Cells___init__ T)) := by
  refine T.D_Cells___init__.F.ok (k := 0) sc_Cells___init__ (spInit_len (len_Cells___init__ T)) (fun cdv A outer s H vs Q E hr h => ?_)
  refine ⟨_, (pss_one (ps_fld (pv 0) pe_bl (by rfl))), ?_⟩
  try dsimp only [cxOf, Cx.blk, Cx.nox, Cx.wish]
  refine init_body1 h fun W C x ds P X eK f => ?_
  subst eK
  obtain ⟨rfl, rfl, hP⟩ := f
  exact ⟨T.k_Cells.o.cl, T.na_Cells_nought, ev_bl hP⟩
theorem src_two {G : Nat → Option BM} {k : Str} {a b : Nat} {A B : BM} (hk : kindLen.lookup k = some 3) (g : G a = some A) (g2 : G b = some B) : ∀ j ∈ srcs k [(a : Int), (b : Int)], ∃ (c : Nat) (C : BM), j = (c : Int) ∧ G c = some C := by
  intro j hj
  unfold srcs at hj
  rw [if_pos hk] at hj
  simp at hj
  rcases hj with rfl | rfl
  · exact ⟨a, A, rfl, g⟩
  · exact ⟨b, B, rfl, g2⟩
theorem src_one {G : Nat → Option BM} {k : Str} {a : Nat} {l : List Int} {A : BM} (hk : kindLen.lookup k ≠ some 3) (g : G a = some A) : ∀ j ∈ srcs k ((a : Int) :: l), ∃ (c : Nat) (C : BM), j = (c : Int) ∧ G c = some C := by
  intro j hj
  unfold srcs at hj
  rw [if_neg hk] at hj
  simp at hj
  subst hj
  exact ⟨a, A, rfl, g⟩
/-- the numbers of the grids that a step reads, below its own -/
theorem mkb_src {G : Nat → Option BM} {k : Str} {l : List Int} {M : BM} (h : MkB G k l M) : kindLen.lookup k = some ((l.length : Int) + 1) ∧ ∀ j ∈ srcs k l, ∃ (a : Nat) (A : BM), j = (a : Int) ∧ G a = some A := by
  cases h with
  | plus g g2 => exact ⟨rfl, src_two rfl g g2⟩
  | times g g2 => exact ⟨rfl, src_two rfl g g2⟩
  | beside g g2 => exact ⟨rfl, src_two rfl g g2⟩
  | above g g2 => exact ⟨rfl, src_two rfl g g2⟩
  | turned g => exact ⟨rfl, src_one (by decide +kernel) g⟩
  | star g => exact ⟨rfl, src_one (by decide +kernel) g⟩
  | piece g => exact ⟨rfl, src_one (by decide +kernel) g⟩
theorem nolsts_all : ∀ {xs : List D}, (∀ x ∈ xs, x.nolst = true) → D.nolsts xs = true
  | [], _ => rfl
  | x :: xs, h => by
    show (x.nolst && D.nolsts xs) = true
    rw [h x List.mem_cons_self, nolsts_all fun y hy => h y (List.mem_cons_of_mem _ hy)]
    rfl
theorem scF_nolst {CS CG : Addr} {gs : List (D × List (List D))} {sts : List (Str × List Int)} {r : List Sh} (h : ∀ x ∈ gs, (gridD CG x).nolst = true) : (scF CS CG gs sts r).nolst = true := by
  have a : D.nolsts (gs.map (gridD CG)) = true := nolsts_all fun x hx => by
    obtain ⟨y, hy, rfl⟩ := List.mem_map.mp hx
    exact h y hy
  have b : D.nolsts (sts.map fun s => stD s.1 s.2) = true := nolsts_all fun x hx => by
    obtain ⟨y, hy, rfl⟩ := List.mem_map.mp hx
    refine nolsts_all fun z hz => ?_
    rcases List.mem_cons.mp hz with rfl | hz
    · rfl
    · obtain ⟨i, _, rfl⟩ := List.mem_map.mp hz
      rfl
  have c : D.nolsts (r.map shD) = true := nolsts_all fun x hx => by
    obtain ⟨y, hy, rfl⟩ := List.mem_map.mp hx
    rfl
  show (D.nolsts (gs.map (gridD CG)) && (D.nolsts (sts.map fun s => stD s.1 s.2) && (D.nolsts (r.map shD) && true))) = true
  rw [a, b, c]
  rfl
theorem flat_one {x : D} : ∀ n : Nat, (List.replicate n [x]).flatten = List.replicate n x
  | 0 => rfl
  | n + 1 => by rw [List.replicate_succ, List.flatten_cons, flat_one n]; rfl
theorem nrefs_bls : ∀ L : List Bool, D.nrefs (L.map D.bl) = true
  | [] => rfl
  | b :: L => by
    show (true && D.nrefs (L.map D.bl)) = true
    rw [nrefs_bls L]
    rfl
theorem getD_set {L : List Bool} {i j : Nat} (h : i < L.length) : (L.set i true).getD j false = if i = j then true else L.getD j false := by
  simp only [List.getD_eq_getElem?_getD, List.getElem?_set]
  by_cases e : i = j
  · subst e
    simp [h]
  · simp [e]
def F_leading {K : PySem.W.Frag} {mg : Str → Option Value} (T : Txt K mg) : FD := fun ds P => ∃ (gs : List (D × List (List D))) (sts : List (Str × List Int)) (F : List BM) (r : List Sh) (a : Nat), ds = [scF T.k_Script.C T.k_Grid.C gs sts r, .int (a : Int)] ∧ ScF T.k_Grid.C gs sts F r ∧ a < gs.length + sts.length ∧
  ∀ L : List Bool, L.length = a + 1 → L.getD a false = true → (∀ i, i ≤ a → L.getD i false = true → ∀ s, sts[i - gs.length]? = some s → gs.length ≤ i → ∀ j ∈ srcs s.1 s.2, L.getD j.toNat false = true) → P (rowB L)
theorem len_leading {K : PySem.W.Frag} {mg : Str → Option Value} (T : Txt K mg) : ∀ ds P, (F_leading T) ds P → ds.length = 2 := by (intro ds P h; first | exact h | (obtain ⟨_, rfl, _⟩ := h; rfl) | (obtain ⟨_, _, rfl, _⟩ := h; rfl) | (obtain ⟨_, _, _, rfl, _⟩ := h; rfl) | (obtain ⟨_, _, _, _, rfl, _⟩ := h; rfl) | (obtain ⟨_, _, _, _, _, rfl, _⟩ := h; rfl) | (obtain ⟨_, _, _, _, _, _, rfl, _⟩ := h; rfl) | (obtain ⟨_, _, _, _, _, _, _, rfl, _⟩ := h; rfl) | (obtain ⟨_, _, _, _, _, _, _, _, rfl, _⟩ := h; rfl) | (obtain ⟨_, _, _, _, _, _, _, _, _, rfl, _⟩ := h; rfl) | (obtain ⟨_, _, _, _, _, _, _, _, _, _, rfl, _⟩ := h; rfl) | (obtain ⟨_, _, _, _, _, _, _, _, _, _, _, rfl, _⟩ := h; rfl) | (obtain ⟨_, _, _, _, _, _, _, _, _, _, _, _, rfl, _⟩ := h; rfl) | (obtain ⟨_, _, _, _, _, _, _, _, _, _, _, _, _, rfl, _⟩ := h; rfl) | (obtain ⟨rfl, _⟩ := h; rfl))
theorem ok_leading (T : Txt K mg) : FnOk Pg T.w0 K mg base CX0 2 T.D_leading.f T.D_leading.d ["script", "at"] ((spD K (F_leading T))) := by
  have G_sources := ok_sources (Pg := Pg) (base := base) T
  refine T.D_leading.F.ok (k := 1) sc_leading (spD_len (len_leading T)) (fun cdv A outer s H vs Q E hr h => ?_)
  refine ⟨_, (pss_cons (ps_set (i := 2) sc_leading.nd rfl (by first | exact Or.inl rfl | exact Or.inr rfl) (pe_callB (call_lenK (K := K) rfl) (by rfl) T.n_len (by decide +kernel) (pa_cons (pe_fldK (K := K) rfl (pv 0) rfl) pa_nil)))
    (pss_cons (ps_set (i := 3) sc_leading.nd rfl (by first | exact Or.inl rfl | exact Or.inr rfl) (pe_op (op_plusK (K := K) rfl) (pe_op op_rep (pe_lst (pa_cons pe_bl pa_nil)) (pv 1)) (pe_lst (pa_cons pe_bl pa_nil))))
    (pss_cons (ps_for PassesOwn.never rfl (pi_range3 (by rfl) T.n_range (pa_cons (pv 1) (pa_cons (pe_op op_sub (pv 2) pe_int) (pa_cons (pe_un un_neg pe_int) pa_nil)))) (pg_name (i := 4) sc_leading.nd rfl (by first | exact Or.inl rfl | exact Or.inr rfl))
      (pss_one (ps_if (pt_val (pe_ix (ix_seqK (K := K) rfl) (pv 3) (pv 4) (fun _ _ => rfl)))
      (pss_one (ps_for PassesOwn.never rfl (pi_seqK (K := K) rfl (pe_call G_sources (hr.mono (by decide)) (by rfl) T.D_sources.g T.D_sources.F.kp T.D_sources.b .nil pass0 (pa_cons (pe_ix (ix_seqK (K := K) rfl) (pe_fldK (K := K) rfl (pv 0) rfl) (pe_op op_sub (pv 4) (pv 2)) (fun _ _ => rfl)) pa_nil))) (pg_name (i := 5) sc_leading.nd rfl (by first | exact Or.inl rfl | exact Or.inr rfl))
      (pss_one (ps_asg pe_bl (pg_sub (pv 3) (pv 5) set_list)))))
      pss_nil)))
    (pss_one (ps_ret (pv 3)))))), ?_⟩
  try dsimp only [cxOf, Cx.blk, Cx.nox, Cx.wish]
  refine body_ofO h fun W ds P eK f => ?_
  subst eK
  obtain ⟨gs, sts, F, r, a, rfl, hS, al, hP⟩ := f
  have g30 := hS.few
  have nl := scF_nolst (CS := T.k_Script.C) (sts := sts) (r := r) hS.nl
  unfold scF at nl ⊢
  refine so_seq (so_asg ?_)
  walk_at "pd"
  refine ev_fld ?_
  refine ev_var rfl ?_
  refine ⟨_, _, _, _, rfl, T.k_Script.o.cl, T.na_Script_grids, rfl, ?_⟩
  walk_at "pd"
  rw [List.length_map]
  refine so_seq (so_asgN (fun d hd => ?_) ?_)
  · simp [startD] at hd
    rcases hd with rfl | rfl | rfl <;> first | rfl | exact nl
  walk_at "pd"
  refine rd_repL (by omega) (by omega) (by simp; omega) ?_
  walk_at "pd"
  refine rd_plusL (by simp; omega) ?_
  have e0 : (List.replicate ((a : Int)).toNat [D.bl false]).flatten ++ [D.bl true] = (List.replicate a false ++ [true]).map .bl := by
    rw [flat_one, List.map_append, List.map_replicate]
    rfl
  rw [e0]
  refine ⟨_, rfl, nrefs_bls _, fun p fresh => ?_⟩
  refine so_seq (so_for (it_down ?_))
  walk_at "pd"
  refine ⟨_, _, rfl, by have := hS.one; omega, fun k ω δ => ∃ (L : List Bool) (x4 x5 : Option D), Has ω p (L.map .bl) ∧ L.length = a + 1 ∧ L.getD a false = true ∧ (∀ i, i ≤ a → a < i + k → L.getD i false = true → ∀ s, sts[i - gs.length]? = some s → gs.length ≤ i → ∀ j ∈ srcs s.1 s.2, L.getD j.toNat false = true) ∧ δ = [some (scD T.k_Script.C (.tup (gs.map (gridD T.k_Grid.C))) (.tup (sts.map fun s => stD s.1 s.2)) r), some (.int (a : Int)), some (.int (gs.length : Int)), some (.obj p), x4, x5],
    ⟨List.replicate a false ++ [true], none, none, Has.new fresh, by simp, by simp [List.getD_eq_getElem?_getD], fun i h1 h2 => by omega, rfl⟩, fun k d ω δ hd hI => ?_, fun ω δ hI => ?_⟩
  · obtain ⟨L, x4, x5, hp, hl, ha, hc, rfl⟩ := hI
    obtain ⟨hk, rfl⟩ := downD_get hd
    have ka : k ≤ a := by omega
    have many : gs.length ≤ a - k := by omega
    obtain ⟨n0, e1⟩ : ∃ n0 : Nat, n0 = a - k := ⟨_, rfl⟩
    have e2 : ((a : Int) - (k : Int)) = (n0 : Int) := by omega
    rw [e2]
    refine ⟨_, gd_name ?_⟩
    refine so_ifL (evtl_put (a := p) 3 rfl hp.1 (evtl_ev ?_))
    walk_at "pd"
    refine rd_ixL (j := n0) (by omega) (rowB_at (by omega)) ?_
    walk_at "pd"
    refine ⟨fun z => ?_, fun z => ?_⟩
    · obtain ⟨s0, hs0⟩ : ∃ s0, sts[n0 - gs.length]? = some s0 := ⟨_, List.getElem?_eq_getElem (by omega)⟩
      obtain ⟨M0, _, hM0⟩ := hS.mks _ _ hs0
      obtain ⟨lk, src⟩ := mkb_src hM0
      have below : ∀ j ∈ srcs s0.1 s0.2, ∃ c : Nat, j = (c : Int) ∧ c < n0 := fun j hj => by
        obtain ⟨c, C, e, g⟩ := src j hj
        refine ⟨c, e, ?_⟩
        by_cases q : c < gs.length + (n0 - gs.length)
        · omega
        · rw [if_neg q] at g
          cases g
      refine so_for (it_seqT ?_)
      walk_at "pd"
      refine ev_fld ?_
      refine ev_var rfl ?_
      refine ⟨_, _, _, _, rfl, T.k_Script.o.cl, T.na_Script_steps, rfl, ?_⟩
      walk_at "pd"
      refine rd_ixT (j := n0 - gs.length) (by omega) (by rw [List.getElem?_map, hs0]; rfl) ?_
      walk_at "pd"
      refine ⟨_, _, _, rfl, lk, ?_⟩
      refine ⟨_, rfl, fun q ω δ => ∃ (L2 : List Bool) (x5 : Option D), Has ω p (L2.map .bl) ∧ L2.length = a + 1 ∧ (∀ i, L.getD i false = true → L2.getD i false = true) ∧ (∀ i, n0 ≤ i → L2.getD i false = L.getD i false) ∧ (∀ j ∈ (srcs s0.1 s0.2).take q, L2.getD j.toNat false = true) ∧ δ = [some (scD T.k_Script.C (.tup (gs.map (gridD T.k_Grid.C))) (.tup (sts.map fun s => stD s.1 s.2)) r), some (.int (a : Int)), some (.int (gs.length : Int)), some (.obj p), some (.int (n0 : Int)), x5],
        ⟨L, x5, hp, hl, fun i h => h, fun i _ => rfl, fun j hj => by simp at hj, rfl⟩, fun q d ω δ hd hI => ?_, fun ω δ hI => ?_⟩
      · obtain ⟨L2, x5, hp, hl2, up, same, don, rfl⟩ := hI
        rw [List.getElem?_map] at hd
        obtain ⟨j, hj, rfl⟩ : ∃ j, (srcs s0.1 s0.2)[q]? = some j ∧ d = .int j := by
          cases e : (srcs s0.1 s0.2)[q]? with
          | none => rw [e] at hd; cases hd
          | some j => rw [e] at hd; cases hd; exact ⟨j, rfl, rfl⟩
        obtain ⟨c, rfl, cn⟩ := below j (List.mem_of_getElem? hj)
        refine ⟨_, gd_name ?_⟩
        refine so_set (i := 3) (j := c) rfl hp.1 ?_
        walk_at "pd"
        refine ⟨rfl, fun es m => by rw [hp.2 es m, List.length_map]; omega, L2.set c true, some (.int (c : Int)), ?_, by rw [List.length_set]; exact hl2, fun i h => ?_, fun i h => ?_, fun j hj2 => ?_, rfl⟩
        · rw [List.map_set]
          exact hp.put
        · rw [getD_set (by omega)]
          split
          · rfl
          · exact up i h
        · rw [getD_set (by omega), if_neg (by omega)]
          exact same i h
        · rw [getD_set (by omega)]
          split
          · rfl
          · rename_i ne
            rw [← take_snoc hj] at hj2
            rcases List.mem_append.mp hj2 with h | h
            · exact don j h
            · rw [List.mem_singleton.mp h] at ne
              exact absurd rfl ne
      · obtain ⟨L2, x5, hp, hl2, up, same, don, rfl⟩ := hI
        rw [List.length_map, List.take_length] at don
        refine ⟨L2, some (.int (n0 : Int)), x5, hp, hl2, up a ha, fun i h1 h2 h3 s hs h4 j hj => ?_, rfl⟩
        rcases Nat.lt_or_ge a (i + k) with q | q
        · rw [same i (by omega)] at h3
          exact up _ (hc i h1 q h3 s hs h4 j hj)
        · have : i = n0 := by omega
          subst this
          rw [hs0] at hs
          cases hs
          exact don j hj
    · refine so_next ⟨L, some (.int (n0 : Int)), x5, hp, hl, ha, fun i h1 h2 h3 => ?_, rfl⟩
      rcases Nat.lt_or_ge a (i + k) with q | q
      · exact hc i h1 q h3
      · have : i = n0 := by omega
        subst this
        rw [z] at h3
        cases h3
  · obtain ⟨L, x4, x5, hp, hl, ha, hc, rfl⟩ := hI
    rw [downD_length] at hc
    exact so_retO (i := 3) rfl hp.1 (hP L hl ha fun i h1 h3 s hs h4 j hj => hc i h1 (by omega) h3 s hs h4 j hj)
def F_turned : FD := fun ds P => ∃ (M : BM) (c : Nat), ds = [flD M] ∧ M ≠ [] ∧ M.length ≤ 12 ∧ (∀ r ∈ M, r.length = c) ∧ c ≤ 1000 ∧ P (flD (colsB M c))
theorem len_turned : ∀ ds P, F_turned ds P → ds.length = 1 := by (intro ds P h; first | exact h | (obtain ⟨_, rfl, _⟩ := h; rfl) | (obtain ⟨_, _, rfl, _⟩ := h; rfl) | (obtain ⟨_, _, _, rfl, _⟩ := h; rfl) | (obtain ⟨_, _, _, _, rfl, _⟩ := h; rfl) | (obtain ⟨_, _, _, _, _, rfl, _⟩ := h; rfl) | (obtain ⟨_, _, _, _, _, _, rfl, _⟩ := h; rfl) | (obtain ⟨_, _, _, _, _, _, _, rfl, _⟩ := h; rfl) | (obtain ⟨_, _, _, _, _, _, _, _, rfl, _⟩ := h; rfl) | (obtain ⟨_, _, _, _, _, _, _, _, _, rfl, _⟩ := h; rfl) | (obtain ⟨_, _, _, _, _, _, _, _, _, _, rfl, _⟩ := h; rfl) | (obtain ⟨_, _, _, _, _, _, _, _, _, _, _, rfl, _⟩ := h; rfl) | (obtain ⟨_, _, _, _, _, _, _, _, _, _, _, _, rfl, _⟩ := h; rfl) | (obtain ⟨_, _, _, _, _, _, _, _, _, _, _, _, _, rfl, _⟩ := h; rfl) | (obtain ⟨rfl, _⟩ := h; rfl))
theorem ok_turned (T : Txt K mg) : FnOk Pg T.w0 K mg base CX0 1 T.D_turned.f T.D_turned.d ["rows"] ((spD K F_turned)) := by
  refine T.D_turned.F.ok (k := 0) sc_turned (spD_len (len_turned)) (fun cdv A outer s H vs Q E hr h => ?_)
  refine ⟨_, (pss_one (ps_ret (pe_lc (own := [("column", 1)]) rfl sc_turned.nd (PDY.pi_zipSK (K := K) rfl (by rfl) T.n_zip (pv 0)) (blkOk_by (N := ["rows", "column"]) (sc := defScope s_turned) (by decide +kernel)) (fun _ _ _ _ _ => (pg_name (i := 1) sc_turned.nd rfl (by first | exact Or.inl rfl | exact Or.inr rfl))) (fun _ _ _ _ _ => pts_nil) (fun _ _ _ _ _ => (pe_callTy (call_list_ofK (K := K) rfl) (by rfl) T.n_list (by decide +kernel) (pa_cons (pv 1) pa_nil)))))), ?_⟩
  try dsimp only [cxOf, Cx.blk, Cx.nox, Cx.wish]
  (refine body_of h fun W ds P eK f => ?_); subst eK
  obtain ⟨M, c, rfl, n1, n2, hc, c1, hP⟩ := f
  walk_at "pd"
  refine ev_lcM (colsB M c) (fun x => .tup (x.map .bl)) rowB (it_zipS ?_)
  refine ev_var rfl ?_
  refine ⟨M.map fun r => r.map .bl, c, flD_lists M, by simpa using n1, by simpa using n2, fun r hr => ?_, colD_bl hc, by rw [show (colsB M c).length = c by simp [colsB]]; omega, fun i x hx => ⟨[1], by simp, gd_name ?_⟩, hP⟩
  · obtain ⟨x, hx, rfl⟩ := List.mem_map.mp hr
    rw [List.length_map]
    exact hc x hx
  · walk_at "pd"
    refine rc_listT ?_
    rfl
def F_moved : FD := fun ds P => ∃ (G : Nat → Option BM) (k : Str) (l : List Int) (M : BM) (gs : List D), ds = [stD k l, .lst gs] ∧ AtG G gs ∧ MkB G k l M ∧ k ≠ "plus" ∧ k ≠ "times" ∧ k ≠ "star" ∧ P (flD M)
theorem len_moved : ∀ ds P, F_moved ds P → ds.length = 2 := by (intro ds P h; first | exact h | (obtain ⟨_, rfl, _⟩ := h; rfl) | (obtain ⟨_, _, rfl, _⟩ := h; rfl) | (obtain ⟨_, _, _, rfl, _⟩ := h; rfl) | (obtain ⟨_, _, _, _, rfl, _⟩ := h; rfl) | (obtain ⟨_, _, _, _, _, rfl, _⟩ := h; rfl) | (obtain ⟨_, _, _, _, _, _, rfl, _⟩ := h; rfl) | (obtain ⟨_, _, _, _, _, _, _, rfl, _⟩ := h; rfl) | (obtain ⟨_, _, _, _, _, _, _, _, rfl, _⟩ := h; rfl) | (obtain ⟨_, _, _, _, _, _, _, _, _, rfl, _⟩ := h; rfl) | (obtain ⟨_, _, _, _, _, _, _, _, _, _, rfl, _⟩ := h; rfl) | (obtain ⟨_, _, _, _, _, _, _, _, _, _, _, rfl, _⟩ := h; rfl) | (obtain ⟨_, _, _, _, _, _, _, _, _, _, _, _, rfl, _⟩ := h; rfl) | (obtain ⟨_, _, _, _, _, _, _, _, _, _, _, _, _, rfl, _⟩ := h; rfl) | (obtain ⟨rfl, _⟩ := h; rfl))
theorem ok_moved (T : Txt K mg) : FnOk Pg T.w0 K mg base CX0 2 T.D_moved.f T.D_moved.d ["step", "grids"] ((spD K F_moved)) := by
  have G_turned := ok_turned (Pg := Pg) (base := base) T
  refine T.D_moved.F.ok (k := 1) sc_moved (spD_len (len_moved)) (fun cdv A outer s H vs Q E hr h => ?_)
  refine ⟨_, (pss_cons (ps_set (i := 2) sc_moved.nd rfl (by first | exact Or.inl rfl | exact Or.inr rfl) (pe_ix (ix_seqK (K := K) rfl) (pv 1) (pe_ix (ix_seqK (K := K) rfl) (pv 0) pe_int (fun _ _ => rfl)) (fun _ _ => rfl)))
    (pss_cons (ps_if (pt_cmpR (op_eqDK (K := K) rfl (hr_u hr)) (pe_ix (ix_seqK (K := K) rfl) (pv 0) pe_int (fun _ _ => rfl)) pe_str (nomark _))
      (pss_one (ps_ret (pe_call G_turned (hr.mono (by decide)) (by rfl) T.D_turned.g T.D_turned.F.kp T.D_turned.b .nil pass0 (pa_cons (pv 2) pa_nil))))
      pss_nil)
    (pss_cons (ps_if (pt_cmpR (op_eqDK (K := K) rfl (hr_u hr)) (pe_ix (ix_seqK (K := K) rfl) (pv 0) pe_int (fun _ _ => rfl)) pe_str (nomark _))
      (pss_one (ps_ret (pe_op (op_plusK (K := K) rfl) (pv 2) (pe_ix (ix_seqK (K := K) rfl) (pv 1) (pe_ix (ix_seqK (K := K) rfl) (pv 0) pe_int (fun _ _ => rfl)) (fun _ _ => rfl)))))
      pss_nil)
    (pss_cons (ps_if (pt_cmpR (op_eqDK (K := K) rfl (hr_u hr)) (pe_ix (ix_seqK (K := K) rfl) (pv 0) pe_int (fun _ _ => rfl)) pe_str (nomark _))
      (pss_one (ps_ret (pe_lc (own := [("left", 8), ("right", 9)]) rfl sc_moved.nd (pi_zipAK (K := K) rfl (by rfl) T.n_zip (pa_cons (pv 2) (pa_cons (pe_ix (ix_seqK (K := K) rfl) (pv 1) (pe_ix (ix_seqK (K := K) rfl) (pv 0) pe_int (fun _ _ => rfl)) (fun _ _ => rfl)) pa_nil))) (blkOk_by (N := ["step", "grids", "one", "first_row", "first_column", "high", "wide", "row", "left", "right"]) (sc := defScope s_moved) (by decide +kernel)) (fun _ _ _ _ _ => (by exact (pg_tupK (K := K) (n := 2) rfl rfl (pgs_cons (pg_name (i := 8) sc_moved.nd rfl (by first | exact Or.inl rfl | exact Or.inr rfl)) (pgs_cons (pg_name (i := 9) sc_moved.nd rfl (by first | exact Or.inl rfl | exact Or.inr rfl)) pgs_nil))))) (fun _ _ _ _ _ => pts_nil) (fun _ _ _ _ _ => (pe_op (op_plusK (K := K) rfl) (pv 8) (pv 9))))))
      pss_nil)
    (pss_cons (ps_asg (pe_slice (sl_tupAK (K := K) rfl) (pv 0) (po_some pe_int) po_none) (by exact (pg_tupK (K := K) (n := 4) rfl rfl (pgs_cons (pg_name (i := 3) sc_moved.nd rfl (by first | exact Or.inl rfl | exact Or.inr rfl)) (pgs_cons (pg_name (i := 4) sc_moved.nd rfl (by first | exact Or.inl rfl | exact Or.inr rfl)) (pgs_cons (pg_name (i := 5) sc_moved.nd rfl (by first | exact Or.inl rfl | exact Or.inr rfl)) (pgs_cons (pg_name (i := 6) sc_moved.nd rfl (by first | exact Or.inl rfl | exact Or.inr rfl)) pgs_nil)))))))
    (pss_one (ps_ret (pe_lc (own := [("row", 7)]) rfl sc_moved.nd (pi_seqK (K := K) rfl (pe_slice (sl_listK (K := K) rfl) (pv 2) (po_some (pv 3)) (po_some (pe_op (op_plusK (K := K) rfl) (pv 3) (pv 5))))) (blkOk_by (N := ["step", "grids", "one", "first_row", "first_column", "high", "wide", "row", "left", "right"]) (sc := defScope s_moved) (by decide +kernel)) (fun _ _ _ _ _ => (pg_name (i := 7) sc_moved.nd rfl (by first | exact Or.inl rfl | exact Or.inr rfl))) (fun _ _ _ _ _ => pts_nil) (fun _ _ _ _ _ => (pe_slice (sl_listK (K := K) rfl) (pv 7) (po_some (pv 4)) (po_some (pe_op (op_plusK (K := K) rfl) (pv 4) (pv 6))))))))))))), ?_⟩
  try dsimp only [cxOf, Cx.blk, Cx.nox, Cx.wish]
  (refine body_of h fun W ds P eK f => ?_); subst eK
  obtain ⟨G, k, l, M, gs, rfl, hG, hM, k1, k2, k3, hP⟩ := f
  cases hM with
  | plus => exact absurd rfl k1
  | times => exact absurd rfl k2
  | star => exact absurd rfl k3
  | @turned a r c Z g d r1 r12 c12 =>
    unfold stD
    walk_at "pd"
    refine rd_ixL (j := a) (by omega) (hG _ _ g) ?_
    walk_at "pd"
    refine ⟨_, _, rfl, fun z => by rw [z] at d; have := d.1; simp at this; omega, by rw [d.1]; exact r12, d.2, by omega, hP⟩
  | @above a b r m c Z Y g g2 d d2 r12 m12 c12 =>
    unfold stD
    walk_at "pd"
    refine rd_ixL (j := a) (by omega) (hG _ _ g) ?_
    walk_at "pd"
    refine rd_ixT (j := 2) rfl rfl ?_
    refine rd_ixL (j := b) (by omega) (hG _ _ g2) ?_
    unfold flD at hP ⊢
    rw [List.map_append] at hP
    exact rd_plusL (by rw [List.length_map, List.length_map, d.1, d2.1]; omega) hP
  | @beside a b r m c Z Y g g2 d d2 r12 m12 c12 =>
    unfold stD
    walk_at "pd"
    refine rd_ixL (j := a) (by omega) (hG _ _ g) ?_
    walk_at "pd"
    refine ev_lcM (Z.zip Y) (fun p => .tup [rowB p.1, rowB p.2]) (fun p => rowB (p.1 ++ p.2)) (it_zipL ?_)
    walk_at "pd"
    refine rd_ixT (j := 2) rfl rfl ?_
    refine rd_ixL (j := b) (by omega) (hG _ _ g2) ?_
    walk_at "pd"
    refine ⟨_, _, rfl, zipD_map _ _ _ _, by rw [List.length_zip, d.1, d2.1]; omega, fun i x hx => ⟨_, ?_, gd_tup2 (gd_name (gd_name ?_))⟩, ?_⟩
    · simp
    · obtain ⟨m1, m2⟩ := List.of_mem_zip (List.mem_of_getElem? hx)
      walk_at "pd"
      unfold rowB
      rw [List.map_append]
      exact rd_plusL (by rw [List.length_map, List.length_map, d.2 _ m1, d2.2 _ m2]; omega) rfl
    · rw [show P (.lst ((Z.zip Y).map fun p => rowB (p.1 ++ p.2))) = P (flD (List.zipWith (· ++ ·) Z Y)) by unfold flD; rw [List.map_zipWith, List.zip, List.map_zipWith]]
      exact hP
  | @piece a i j h w r c Z g d ir jc h1 w1 r12 c12 =>
    unfold stD
    walk_at "pd"
    refine rd_ixL (j := a) (by omega) (hG _ _ g) ?_
    walk_at "pd"
    refine sd_asgG (js := [3, 4, 5, 6]) ?_
    walk_at "pd"
    refine ⟨_, rfl, ?_⟩
    walk_at "pd"
    refine ⟨_, rfl, ?_⟩
    walk_at "pd"
    rw [List.map_cons, cut2]
    refine gd_tup4 (gd_name (gd_name (gd_name (gd_name ?_))))
    walk_at "pd"
    refine ev_lcM ((Z.drop i).take h) rowB (fun row => rowB ((row.drop j).take w)) (it_seqL (ev_slL (ev_var rfl ⟨_, rfl, ?_⟩)))
    walk_at "pd"
    refine ⟨_, rfl, ?_⟩
    walk_at "pd"
    refine ⟨_, rfl, ?_⟩
    refine ⟨_, rfl, cutM Z rowB i h, by rw [List.length_take, List.length_drop, d.1]; omega, fun q x hx => ⟨_, by simp, gd_name ?_⟩, ?_⟩
    · refine ev_slL (ev_var rfl ⟨_, rfl, ?_⟩)
      walk_at "pd"
      refine ⟨_, rfl, ?_⟩
      walk_at "pd"
      refine ⟨_, rfl, ?_⟩
      show D.lst _ = D.lst _
      rw [cutM x .bl j w]
    · rw [show P (.lst (((Z.drop i).take h).map fun row => rowB ((row.drop j).take w))) = P (flD (((Z.drop i).take h).map fun row => (row.drop j).take w)) by unfold flD; rw [List.map_map]; rfl]
      exact hP
def F_Cells_product_of : FD := fun ds P => ∃ (c : D) (a b : Bool), ds = [c, .bl a, .bl b] ∧ P (.bl (a && b))
theorem len_Cells_product_of : ∀ ds P, F_Cells_product_of ds P → ds.length = 3 := by (intro ds P h; first | exact h | (obtain ⟨_, rfl, _⟩ := h; rfl) | (obtain ⟨_, _, rfl, _⟩ := h; rfl) | (obtain ⟨_, _, _, rfl, _⟩ := h; rfl) | (obtain ⟨_, _, _, _, rfl, _⟩ := h; rfl) | (obtain ⟨_, _, _, _, _, rfl, _⟩ := h; rfl) | (obtain ⟨_, _, _, _, _, _, rfl, _⟩ := h; rfl) | (obtain ⟨_, _, _, _, _, _, _, rfl, _⟩ := h; rfl) | (obtain ⟨_, _, _, _, _, _, _, _, rfl, _⟩ := h; rfl) | (obtain ⟨_, _, _, _, _, _, _, _, _, rfl, _⟩ := h; rfl) | (obtain ⟨_, _, _, _, _, _, _, _, _, _, rfl, _⟩ := h; rfl) | (obtain ⟨_, _, _, _, _, _, _, _, _, _, _, rfl, _⟩ := h; rfl) | (obtain ⟨_, _, _, _, _, _, _, _, _, _, _, _, rfl, _⟩ := h; rfl) | (obtain ⟨_, _, _, _, _, _, _, _, _, _, _, _, _, rfl, _⟩ := h; rfl) | (obtain ⟨rfl, _⟩ := h; rfl))
theorem ok_Cells_product_of (T : Txt K mg) : FnOk Pg T.w0 K mg base CX0 1 T.D_Cells_product_of.f T.D_Cells_product_of.d ["self", "one", "other"] ((spD K F_Cells_product_of)) := by
  refine T.D_Cells_product_of.F.ok (k := 0) sc_Cells_product_of (spD_len (len_Cells_product_of)) (fun cdv A outer s H vs Q E hr h => ?_)
  refine ⟨_, (pss_one (ps_ret (pe_and (pv 1) (pe_one (pv 2))))), ?_⟩
  try dsimp only [cxOf, Cx.blk, Cx.nox, Cx.wish]
  (refine body_of h fun W ds P eK f => ?_); subst eK
  obtain ⟨c, a, b, rfl, hP⟩ := f
  walk_at "pd"
  cases a <;> walk_at "pd" <;> exact hP
def F_Cells_sum_of : FD := fun ds P => ∃ (c : D) (a b : Bool), ds = [c, .bl a, .bl b] ∧ P (.bl (a || b))
theorem len_Cells_sum_of : ∀ ds P, F_Cells_sum_of ds P → ds.length = 3 := by (intro ds P h; first | exact h | (obtain ⟨_, rfl, _⟩ := h; rfl) | (obtain ⟨_, _, rfl, _⟩ := h; rfl) | (obtain ⟨_, _, _, rfl, _⟩ := h; rfl) | (obtain ⟨_, _, _, _, rfl, _⟩ := h; rfl) | (obtain ⟨_, _, _, _, _, rfl, _⟩ := h; rfl) | (obtain ⟨_, _, _, _, _, _, rfl, _⟩ := h; rfl) | (obtain ⟨_, _, _, _, _, _, _, rfl, _⟩ := h; rfl) | (obtain ⟨_, _, _, _, _, _, _, _, rfl, _⟩ := h; rfl) | (obtain ⟨_, _, _, _, _, _, _, _, _, rfl, _⟩ := h; rfl) | (obtain ⟨_, _, _, _, _, _, _, _, _, _, rfl, _⟩ := h; rfl) | (obtain ⟨_, _, _, _, _, _, _, _, _, _, _, rfl, _⟩ := h; rfl) | (obtain ⟨_, _, _, _, _, _, _, _, _, _, _, _, rfl, _⟩ := h; rfl) | (obtain ⟨_, _, _, _, _, _, _, _, _, _, _, _, _, rfl, _⟩ := h; rfl) | (obtain ⟨rfl, _⟩ := h; rfl))
theorem ok_Cells_sum_of (T : Txt K mg) : FnOk Pg T.w0 K mg base CX0 1 T.D_Cells_sum_of.f T.D_Cells_sum_of.d ["self", "one", "other"] ((spD K F_Cells_sum_of)) := by
  refine T.D_Cells_sum_of.F.ok (k := 0) sc_Cells_sum_of (spD_len (len_Cells_sum_of)) (fun cdv A outer s H vs Q E hr h => ?_)
  refine ⟨_, (pss_one (ps_ret (pe_or (pv 1) (pe_one (pv 2))))), ?_⟩
  try dsimp only [cxOf, Cx.blk, Cx.nox, Cx.wish]
  (refine body_of h fun W ds P eK f => ?_); subst eK
  obtain ⟨c, a, b, rfl, hP⟩ := f
  walk_at "pd"
  cases a <;> walk_at "pd" <;> exact hP
def F_Cells_inner {K : PySem.W.Frag} {mg : Str → Option Value} (T : Txt K mg) : FD := fun ds P => ∃ r c : List Bool, ds = [cellsD T.k_Cells.C, rowB r, rowB c] ∧ P (.bl (innerB r c))
theorem len_Cells_inner {K : PySem.W.Frag} {mg : Str → Option Value} (T : Txt K mg) : ∀ ds P, (F_Cells_inner T) ds P → ds.length = 3 := by (intro ds P h; first | exact h | (obtain ⟨_, rfl, _⟩ := h; rfl) | (obtain ⟨_, _, rfl, _⟩ := h; rfl) | (obtain ⟨_, _, _, rfl, _⟩ := h; rfl) | (obtain ⟨_, _, _, _, rfl, _⟩ := h; rfl) | (obtain ⟨_, _, _, _, _, rfl, _⟩ := h; rfl) | (obtain ⟨_, _, _, _, _, _, rfl, _⟩ := h; rfl) | (obtain ⟨_, _, _, _, _, _, _, rfl, _⟩ := h; rfl) | (obtain ⟨_, _, _, _, _, _, _, _, rfl, _⟩ := h; rfl) | (obtain ⟨_, _, _, _, _, _, _, _, _, rfl, _⟩ := h; rfl) | (obtain ⟨_, _, _, _, _, _, _, _, _, _, rfl, _⟩ := h; rfl) | (obtain ⟨_, _, _, _, _, _, _, _, _, _, _, rfl, _⟩ := h; rfl) | (obtain ⟨_, _, _, _, _, _, _, _, _, _, _, _, rfl, _⟩ := h; rfl) | (obtain ⟨_, _, _, _, _, _, _, _, _, _, _, _, _, rfl, _⟩ := h; rfl) | (obtain ⟨rfl, _⟩ := h; rfl))
theorem ok_Cells_inner (T : Txt K mg) : FnOk Pg T.w0 K mg base CX0 2 T.D_Cells_inner.f T.D_Cells_inner.d ["self", "row", "column"] ((spD K (F_Cells_inner T))) := by
  have G_Cells_product_of := ok_Cells_product_of (Pg := Pg) (base := base) T
  have G_Cells_sum_of := ok_Cells_sum_of (Pg := Pg) (base := base) T
  refine T.D_Cells_inner.F.ok (k := 1) sc_Cells_inner (spD_len (len_Cells_inner T)) (fun cdv A outer s H vs Q E hr h => ?_)
  refine ⟨_, (pss_cons (ps_set (i := 3) sc_Cells_inner.nd rfl (by first | exact Or.inl rfl | exact Or.inr rfl) (pe_fldK (K := K) rfl (pv 0) rfl))
    (pss_cons (ps_for PassesOwn.never rfl (pi_zipAK (K := K) rfl (by rfl) T.n_zip (pa_cons (pv 1) (pa_cons (pv 2) pa_nil))) (by exact (pg_tupK (K := K) (n := 2) rfl rfl (pgs_cons (pg_name (i := 4) sc_Cells_inner.nd rfl (by first | exact Or.inl rfl | exact Or.inr rfl)) (pgs_cons (pg_name (i := 5) sc_Cells_inner.nd rfl (by first | exact Or.inl rfl | exact Or.inr rfl)) pgs_nil))))
      (pss_one (ps_if (PW.pt (pw_and (pt_cmpR (op_neDK (K := K) rfl (hr_u hr)) (pv 4) (pe_fldK (K := K) rfl (pv 0) rfl) (nomark _)) (pw_and1 (pt_cmpR (op_neDK (K := K) rfl (hr_u hr)) (pv 5) (pe_fldK (K := K) rfl (pv 0) rfl) (nomark _)))))
      (pss_one (ps_set (i := 3) sc_Cells_inner.nd rfl (by first | exact Or.inl rfl | exact Or.inr rfl) (pe_meth (pv 0) T.k_Cells.o.cl T.mt_Cells_sum_of G_Cells_sum_of (hr.mono (by decide)) T.D_Cells_sum_of.b .nil pass0 (pa_cons (pv 3) (pa_cons (pe_meth (pv 0) T.k_Cells.o.cl T.mt_Cells_product_of G_Cells_product_of (hr.mono (by decide)) T.D_Cells_product_of.b .nil pass0 (pa_cons (pv 4) (pa_cons (pv 5) pa_nil))) pa_nil)))))
      pss_nil)))
    (pss_one (ps_ret (pv 3))))), ?_⟩
  try dsimp only [cxOf, Cx.blk, Cx.nox, Cx.wish]
  (refine body_of h fun W ds P eK f => ?_); subst eK
  obtain ⟨r, c, rfl, hP⟩ := f
  walk_at "pd"
  (refine ev_fld ?_; refine ev_var rfl ?_; refine ⟨_, _, _, _, rfl, T.k_Cells.o.cl, T.na_Cells_nought, rfl, ?_⟩)
  walk_at "pd"
  refine sd_for (it_zipL ?_)
  walk_at "pd"
  refine ⟨_, _, rfl, fun i δ => ∃ (x4 x5 : Option D), δ = [some (cellsD T.k_Cells.C), some (rowB r), some (rowB c), some (.bl (((r.zip c).take i).any fun p => p.1 && p.2)), x4, x5], ⟨none, none, rfl⟩, fun i d δ hd hI => ?_, fun δ hI => ?_⟩
  · obtain ⟨x4, x5, rfl⟩ := hI
    obtain ⟨a, b, hz, _, _, rfl⟩ := zipD_bl hd
    have snoc : ((r.zip c).take (i + 1)).any (fun p => p.1 && p.2) = (((r.zip c).take i).any (fun p => p.1 && p.2) || (a && b)) := by
      rw [← take_snoc hz, List.any_append]
      simp
    refine ⟨_, gd_tup2 (gd_name (gd_name ?_))⟩
    walk_at "pd"
    (refine ev_fld ?_; refine ev_var rfl ?_; refine ⟨_, _, _, _, rfl, T.k_Cells.o.cl, T.na_Cells_nought, rfl, ?_⟩)
    refine rd_neF ?_
    walk_at "pd"
    refine ⟨fun z => ?_, fun z => ?_⟩
    · subst z
      walk_at "pd"
      (refine ev_fld ?_; refine ev_var rfl ?_; refine ⟨_, _, _, _, rfl, T.k_Cells.o.cl, T.na_Cells_nought, rfl, ?_⟩)
      refine rd_neF ?_
      walk_at "pd"
      refine ⟨fun z => ?_, fun z => ?_⟩
      · subst z
        walk_at "pd"
        (refine ev_meth ?_; refine ev_var rfl ?_; refine ⟨_, _, rfl, by decide, ?_⟩)
        walk_at "pd"
        (refine ev_meth ?_; refine ev_var rfl ?_; refine ⟨_, _, rfl, by decide, ?_⟩)
        walk_at "pd"
        refine ⟨_, _, _, rfl, ?_⟩
        walk_at "pd"
        refine ⟨_, _, _, rfl, ?_⟩
        exact ⟨_, _, by rw [snoc]; rfl⟩
      · subst z
        walk_at "pd"
        exact ⟨_, _, by rw [snoc, Bool.and_false, Bool.or_false]; rfl⟩
    · subst z
      walk_at "pd"
      exact ⟨_, _, by rw [snoc, Bool.false_and, Bool.or_false]; rfl⟩
  · obtain ⟨x4, x5, rfl⟩ := hI
    have full : (r.zip c).take (zipD (r.map .bl) (c.map .bl)).length = r.zip c := by
      rw [zipD_len, List.length_map, List.length_map]
      apply List.take_of_length_le
      rw [List.length_zip]
      exact Nat.le_refl _
    rw [full]
    walk_at "pd"
    exact hP
def F_Cells_products {K : PySem.W.Frag} {mg : Str → Option Value} (T : Txt K mg) : FD := fun ds P => ∃ (A B : BM) (r m c : Nat), ds = [cellsD T.k_Cells.C, flD A, flD B] ∧ DimB A r m ∧ DimB B m c ∧ r ≤ 12 ∧ 1 ≤ m ∧ m ≤ 12 ∧ c ≤ 12 ∧ P (flD (timesC A B c))
theorem len_Cells_products {K : PySem.W.Frag} {mg : Str → Option Value} (T : Txt K mg) : ∀ ds P, (F_Cells_products T) ds P → ds.length = 3 := by (intro ds P h; first | exact h | (obtain ⟨_, rfl, _⟩ := h; rfl) | (obtain ⟨_, _, rfl, _⟩ := h; rfl) | (obtain ⟨_, _, _, rfl, _⟩ := h; rfl) | (obtain ⟨_, _, _, _, rfl, _⟩ := h; rfl) | (obtain ⟨_, _, _, _, _, rfl, _⟩ := h; rfl) | (obtain ⟨_, _, _, _, _, _, rfl, _⟩ := h; rfl) | (obtain ⟨_, _, _, _, _, _, _, rfl, _⟩ := h; rfl) | (obtain ⟨_, _, _, _, _, _, _, _, rfl, _⟩ := h; rfl) | (obtain ⟨_, _, _, _, _, _, _, _, _, rfl, _⟩ := h; rfl) | (obtain ⟨_, _, _, _, _, _, _, _, _, _, rfl, _⟩ := h; rfl) | (obtain ⟨_, _, _, _, _, _, _, _, _, _, _, rfl, _⟩ := h; rfl) | (obtain ⟨_, _, _, _, _, _, _, _, _, _, _, _, rfl, _⟩ := h; rfl) | (obtain ⟨_, _, _, _, _, _, _, _, _, _, _, _, _, rfl, _⟩ := h; rfl) | (obtain ⟨rfl, _⟩ := h; rfl))
theorem ok_Cells_products (T : Txt K mg) : FnOk Pg T.w0 K mg base CX0 3 T.D_Cells_products.f T.D_Cells_products.d ["self", "one", "other"] ((spD K (F_Cells_products T))) := by
  have G_Cells_inner := ok_Cells_inner (Pg := Pg) (base := base) T
  have G_turned := ok_turned (Pg := Pg) (base := base) T
  refine T.D_Cells_products.F.ok (k := 2) sc_Cells_products (spD_len (len_Cells_products T)) (fun cdv A outer s H vs Q E hr h => ?_)
  refine ⟨_, (pss_cons (ps_set (i := 3) sc_Cells_products.nd rfl (by first | exact Or.inl rfl | exact Or.inr rfl) (pe_call G_turned (hr.mono (by decide)) (by rfl) T.D_turned.g T.D_turned.F.kp T.D_turned.b .nil pass0 (pa_cons (pv 2) pa_nil)))
    (pss_one (ps_ret (pe_lc (own := [("row", 4)]) rfl sc_Cells_products.nd (pi_seqK (K := K) rfl (pv 1)) (blkOk_by (N := ["self", "one", "other", "columns", "row", "column"]) (sc := defScope s_Cells_products) (by decide +kernel)) (fun _ _ _ _ _ => (pg_name (i := 4) sc_Cells_products.nd rfl (by first | exact Or.inl rfl | exact Or.inr rfl))) (fun _ _ _ _ _ => pts_nil) (fun _ _ _ _ _ => (pe_lc (own := [("column", 5)]) rfl sc_Cells_products.nd (pi_seqK (K := K) rfl (pv 3)) (by exact blkOk_by (N := ["self", "one", "other", "columns", "row", "column"]) (by kernel_rfl)) (fun _ _ _ _ _ => (pg_name (i := 5) sc_Cells_products.nd rfl (by first | exact Or.inl rfl | exact Or.inr rfl))) (fun _ _ _ _ _ => pts_nil) (fun _ _ _ _ _ => (pe_meth (pv 0) T.k_Cells.o.cl T.mt_Cells_inner G_Cells_inner (hr.mono (by decide)) T.D_Cells_inner.b .nil pass0 (pa_cons (pv 4) (pa_cons (pv 5) pa_nil)))))))))), ?_⟩
  try dsimp only [cxOf, Cx.blk, Cx.nox, Cx.wish]
  (refine body_of h fun W ds P eK f => ?_); subst eK
  obtain ⟨X1, X2, r, m, c, rfl, d1, d2, r12, m1, m12, c12, hP⟩ := f
  walk_at "pd"
  refine ⟨X2, c, rfl, fun z => by rw [z] at d2; have := d2.1; simp at this; omega, by rw [d2.1]; omega, d2.2, by omega, ?_⟩
  walk_at "pd"
  refine ev_lcM X1 rowB (fun row => rowB ((colsB X2 c).map fun col => innerB row col)) (it_seqL (ev_var rfl ⟨_, rfl, rfl, by rw [d1.1]; omega, fun i x hx => ⟨_, by simp, gd_name ?_⟩, ?_⟩))
  · refine ev_mono (ev_lcM (colsB X2 c) rowB (fun col => .bl (innerB x col)) (P := fun z => z = rowB ((colsB X2 c).map fun col => innerB x col)) (it_seqL (ev_var rfl ⟨_, rfl, rfl, by simp [colsB]; omega, fun j y hy => ⟨_, by simp, gd_name ?_⟩, ?_⟩))) fun _ z => z
    · (refine ev_meth ?_; refine ev_var rfl ?_; refine ⟨_, _, rfl, by decide, ?_⟩)
      walk_at "pd"
      exact ⟨_, _, rfl, rfl⟩
    · show D.lst _ = D.lst _
      rw [List.map_map]
      rfl
  · rw [show P (.lst (X1.map fun row => rowB ((colsB X2 c).map fun col => innerB row col))) = P (flD (timesC X1 X2 c)) by unfold flD timesC; rw [List.map_map]; rfl]
    exact hP
def F_Cells_powers_of : FD := fun ds P => ∃ a b : D, ds = [a, b] ∧ P (.bl true)
theorem len_Cells_powers_of : ∀ ds P, F_Cells_powers_of ds P → ds.length = 2 := by (intro ds P h; first | exact h | (obtain ⟨_, rfl, _⟩ := h; rfl) | (obtain ⟨_, _, rfl, _⟩ := h; rfl) | (obtain ⟨_, _, _, rfl, _⟩ := h; rfl) | (obtain ⟨_, _, _, _, rfl, _⟩ := h; rfl) | (obtain ⟨_, _, _, _, _, rfl, _⟩ := h; rfl) | (obtain ⟨_, _, _, _, _, _, rfl, _⟩ := h; rfl) | (obtain ⟨_, _, _, _, _, _, _, rfl, _⟩ := h; rfl) | (obtain ⟨_, _, _, _, _, _, _, _, rfl, _⟩ := h; rfl) | (obtain ⟨_, _, _, _, _, _, _, _, _, rfl, _⟩ := h; rfl) | (obtain ⟨_, _, _, _, _, _, _, _, _, _, rfl, _⟩ := h; rfl) | (obtain ⟨_, _, _, _, _, _, _, _, _, _, _, rfl, _⟩ := h; rfl) | (obtain ⟨_, _, _, _, _, _, _, _, _, _, _, _, rfl, _⟩ := h; rfl) | (obtain ⟨_, _, _, _, _, _, _, _, _, _, _, _, _, rfl, _⟩ := h; rfl) | (obtain ⟨rfl, _⟩ := h; rfl))
theorem ok_Cells_powers_of (T : Txt K mg) : FnOk Pg T.w0 K mg base CX0 1 T.D_Cells_powers_of.f T.D_Cells_powers_of.d ["self", "one"] ((spD K F_Cells_powers_of)) := by
  refine T.D_Cells_powers_of.F.ok (k := 0) sc_Cells_powers_of (spD_len (len_Cells_powers_of)) (fun cdv A outer s H vs Q E hr h => ?_)
  refine ⟨_, (pss_one (ps_ret pe_bl)), ?_⟩
  try dsimp only [cxOf, Cx.blk, Cx.nox, Cx.wish]
  (refine body_of h fun W ds P eK f => ?_); subst eK
  obtain ⟨a, b, rfl, hP⟩ := f
  walk_at "pd"
  exact hP
theorem withP_get {row frm : List Bool} {b : Bool} : withP row b frm = if b then (row.zip frm).map (fun p => p.1 || p.2) else row := by
  unfold withP orR
  cases b with
  | false => rfl
  | true =>
    rw [if_pos rfl, if_pos rfl, List.zip, List.map_zipWith]
def F_Cells_with_paths {K : PySem.W.Frag} {mg : Str → Option Value} (T : Txt K mg) : FD := fun ds P => ∃ (row frm : List Bool) (b : Bool), ds = [cellsD T.k_Cells.C, rowB row, .bl b, .bl true, rowB frm] ∧ row.length ≤ 12 ∧ P (rowB (withP row b frm))
theorem len_Cells_with_paths {K : PySem.W.Frag} {mg : Str → Option Value} (T : Txt K mg) : ∀ ds P, (F_Cells_with_paths T) ds P → ds.length = 5 := by (intro ds P h; first | exact h | (obtain ⟨_, rfl, _⟩ := h; rfl) | (obtain ⟨_, _, rfl, _⟩ := h; rfl) | (obtain ⟨_, _, _, rfl, _⟩ := h; rfl) | (obtain ⟨_, _, _, _, rfl, _⟩ := h; rfl) | (obtain ⟨_, _, _, _, _, rfl, _⟩ := h; rfl) | (obtain ⟨_, _, _, _, _, _, rfl, _⟩ := h; rfl) | (obtain ⟨_, _, _, _, _, _, _, rfl, _⟩ := h; rfl) | (obtain ⟨_, _, _, _, _, _, _, _, rfl, _⟩ := h; rfl) | (obtain ⟨_, _, _, _, _, _, _, _, _, rfl, _⟩ := h; rfl) | (obtain ⟨_, _, _, _, _, _, _, _, _, _, rfl, _⟩ := h; rfl) | (obtain ⟨_, _, _, _, _, _, _, _, _, _, _, rfl, _⟩ := h; rfl) | (obtain ⟨_, _, _, _, _, _, _, _, _, _, _, _, rfl, _⟩ := h; rfl) | (obtain ⟨_, _, _, _, _, _, _, _, _, _, _, _, _, rfl, _⟩ := h; rfl) | (obtain ⟨rfl, _⟩ := h; rfl))
theorem ok_Cells_with_paths (T : Txt K mg) : FnOk Pg T.w0 K mg base CX0 2 T.D_Cells_with_paths.f T.D_Cells_with_paths.d ["self", "row", "to_place", "around", "from_place"] ((spD K (F_Cells_with_paths T))) := by
  have G_Cells_product_of := ok_Cells_product_of (Pg := Pg) (base := base) T
  have G_Cells_sum_of := ok_Cells_sum_of (Pg := Pg) (base := base) T
  refine T.D_Cells_with_paths.F.ok (k := 1) sc_Cells_with_paths (spD_len (len_Cells_with_paths T)) (fun cdv A outer s H vs Q E hr h => ?_)
  refine ⟨_, (pss_cons (ps_if (pt_cmpR (op_eqDK (K := K) rfl (hr_u hr)) (pv 2) (pe_fldK (K := K) rfl (pv 0) rfl) (nomark _))
      (pss_one (ps_ret (pv 1)))
      pss_nil)
    (pss_cons (ps_set (i := 5) sc_Cells_with_paths.nd rfl (by first | exact Or.inl rfl | exact Or.inr rfl) (pe_meth (pv 0) T.k_Cells.o.cl T.mt_Cells_product_of G_Cells_product_of (hr.mono (by decide)) T.D_Cells_product_of.b .nil pass0 (pa_cons (pv 2) (pa_cons (pv 3) pa_nil))))
    (pss_one (ps_ret (pe_lc (own := [("there", 6), ("further", 7)]) rfl sc_Cells_with_paths.nd (pi_zipAK (K := K) rfl (by rfl) T.n_zip (pa_cons (pv 1) (pa_cons (pv 4) pa_nil))) (blkOk_by (N := ["self", "row", "to_place", "around", "from_place", "begun", "there", "further"]) (sc := defScope s_Cells_with_paths) (by decide +kernel)) (fun _ _ _ _ _ => (by exact (pg_tupK (K := K) (n := 2) rfl rfl (pgs_cons (pg_name (i := 6) sc_Cells_with_paths.nd rfl (by first | exact Or.inl rfl | exact Or.inr rfl)) (pgs_cons (pg_name (i := 7) sc_Cells_with_paths.nd rfl (by first | exact Or.inl rfl | exact Or.inr rfl)) pgs_nil))))) (fun _ _ _ _ _ => pts_nil) (fun _ _ _ _ _ => (pe_ifExp (pt_cmpR (op_eqDK (K := K) rfl (hr_u hr)) (pv 7) (pe_fldK (K := K) rfl (pv 0) rfl) (nomark _)) (pv 6) (pe_meth (pv 0) T.k_Cells.o.cl T.mt_Cells_sum_of G_Cells_sum_of (hr.mono (by decide)) T.D_Cells_sum_of.b .nil pass0 (pa_cons (pv 6) (pa_cons (pe_meth (pv 0) T.k_Cells.o.cl T.mt_Cells_product_of G_Cells_product_of (hr.mono (by decide)) T.D_Cells_product_of.b .nil pass0 (pa_cons (pv 5) (pa_cons (pv 7) pa_nil))) pa_nil)))))))))), ?_⟩
  try dsimp only [cxOf, Cx.blk, Cx.nox, Cx.wish]
  (refine body_of h fun W ds P eK f => ?_); subst eK
  obtain ⟨row, frm, b, rfl, l12, hP⟩ := f
  rw [withP_get] at hP
  walk_at "pd"
  (refine ev_fld ?_; refine ev_var rfl ?_; refine ⟨_, _, _, _, rfl, T.k_Cells.o.cl, T.na_Cells_nought, rfl, ?_⟩)
  refine rd_eqF ?_
  walk_at "pd"
  cases b with
  | false =>
    walk_at "pd"
    exact hP
  | true =>
    walk_at "pd"
    (refine ev_meth ?_; refine ev_var rfl ?_; refine ⟨_, _, rfl, by decide, ?_⟩)
    walk_at "pd"
    refine ⟨_, _, _, rfl, ?_⟩
    walk_at "pd"
    refine ev_lcM (row.zip frm) (fun p => .tup [.bl p.1, .bl p.2]) (fun p => .bl (p.1 || p.2)) (it_zipL ?_)
    walk_at "pd"
    refine ⟨_, _, rfl, zipD_map _ _ _ _, by rw [List.length_zip]; omega, fun j y hy => ⟨_, ?_, gd_tup2 (gd_name (gd_name ?_))⟩, ?_⟩
    · simp
    · obtain ⟨y1, y2⟩ := y
      walk_at "pd"
      (refine ev_fld ?_; refine ev_var rfl ?_; refine ⟨_, _, _, _, rfl, T.k_Cells.o.cl, T.na_Cells_nought, rfl, ?_⟩)
      refine rd_eqF ?_
      walk_at "pd"
      cases y2 with
      | false =>
        walk_at "pd"
        simp
      | true =>
        walk_at "pd"
        (refine ev_meth ?_; refine ev_var rfl ?_; refine ⟨_, _, rfl, by decide, ?_⟩)
        walk_at "pd"
        (refine ev_meth ?_; refine ev_var rfl ?_; refine ⟨_, _, rfl, by decide, ?_⟩)
        walk_at "pd"
        refine ⟨_, _, _, rfl, ?_⟩
        walk_at "pd"
        exact ⟨_, _, _, rfl, rfl⟩
    · rw [if_pos rfl] at hP
      unfold rowB at hP
      rw [List.map_map] at hP
      exact hP
def F_Cells_stars {K : PySem.W.Frag} {mg : Str → Option Value} (T : Txt K mg) : FD := fun ds P => ∃ (M : BM) (n : Nat), ds = [cellsD T.k_Cells.C, flD M] ∧ DimB M n n ∧ n ≤ 12 ∧ P (flD (starW M))
theorem len_Cells_stars {K : PySem.W.Frag} {mg : Str → Option Value} (T : Txt K mg) : ∀ ds P, (F_Cells_stars T) ds P → ds.length = 2 := by (intro ds P h; first | exact h | (obtain ⟨_, rfl, _⟩ := h; rfl) | (obtain ⟨_, _, rfl, _⟩ := h; rfl) | (obtain ⟨_, _, _, rfl, _⟩ := h; rfl) | (obtain ⟨_, _, _, _, rfl, _⟩ := h; rfl) | (obtain ⟨_, _, _, _, _, rfl, _⟩ := h; rfl) | (obtain ⟨_, _, _, _, _, _, rfl, _⟩ := h; rfl) | (obtain ⟨_, _, _, _, _, _, _, rfl, _⟩ := h; rfl) | (obtain ⟨_, _, _, _, _, _, _, _, rfl, _⟩ := h; rfl) | (obtain ⟨_, _, _, _, _, _, _, _, _, rfl, _⟩ := h; rfl) | (obtain ⟨_, _, _, _, _, _, _, _, _, _, rfl, _⟩ := h; rfl) | (obtain ⟨_, _, _, _, _, _, _, _, _, _, _, rfl, _⟩ := h; rfl) | (obtain ⟨_, _, _, _, _, _, _, _, _, _, _, _, rfl, _⟩ := h; rfl) | (obtain ⟨_, _, _, _, _, _, _, _, _, _, _, _, _, rfl, _⟩ := h; rfl) | (obtain ⟨rfl, _⟩ := h; rfl))
theorem ok_Cells_stars (T : Txt K mg) : FnOk Pg T.w0 K mg base CX0 3 T.D_Cells_stars.f T.D_Cells_stars.d ["self", "rows"] ((spD K (F_Cells_stars T))) := by
  have G_Cells_powers_of := ok_Cells_powers_of (Pg := Pg) (base := base) T
  have G_Cells_with_paths := ok_Cells_with_paths (Pg := Pg) (base := base) T
  refine T.D_Cells_stars.F.ok (k := 2) sc_Cells_stars (spD_len (len_Cells_stars T)) (fun cdv A outer s H vs Q E hr h => ?_)
  refine ⟨_, (pss_cons (ps_set (i := 2) sc_Cells_stars.nd rfl (by first | exact Or.inl rfl | exact Or.inr rfl) (pv 1))
    (pss_cons (ps_for PassesOwn.never rfl (pi_range1 (by rfl) T.n_range (pa_cons (pe_callB (call_lenK (K := K) rfl) (by rfl) T.n_len (by decide +kernel) (pa_cons (pv 1) pa_nil)) pa_nil)) (pg_name (i := 3) sc_Cells_stars.nd rfl (by first | exact Or.inl rfl | exact Or.inr rfl))
      (pss_cons (ps_set (i := 4) sc_Cells_stars.nd rfl (by first | exact Or.inl rfl | exact Or.inr rfl) (pe_meth (pv 0) T.k_Cells.o.cl T.mt_Cells_powers_of G_Cells_powers_of (hr.mono (by decide)) T.D_Cells_powers_of.b .nil pass0 (pa_cons (pe_ix (ix_seqK (K := K) rfl) (pe_ix (ix_seqK (K := K) rfl) (pv 2) (pv 3) (fun _ _ => rfl)) (pv 3) (fun _ _ => rfl)) pa_nil)))
    (pss_one (ps_set (i := 2) sc_Cells_stars.nd rfl (by first | exact Or.inl rfl | exact Or.inr rfl) (pe_lc (own := [("row", 5)]) rfl sc_Cells_stars.nd (pi_seqK (K := K) rfl (pv 2)) (blkOk_by (N := ["self", "rows", "sums", "k", "around", "row"]) (sc := defScope s_Cells_stars) (by decide +kernel)) (fun _ _ _ _ _ => (pg_name (i := 5) sc_Cells_stars.nd rfl (by first | exact Or.inl rfl | exact Or.inr rfl))) (fun _ _ _ _ _ => pts_nil) (fun _ _ _ _ _ => (pe_meth (pv 0) T.k_Cells.o.cl T.mt_Cells_with_paths G_Cells_with_paths (hr.mono (by decide)) T.D_Cells_with_paths.b .nil pass0 (pa_cons (pv 5) (pa_cons (pe_ix (ix_seqK (K := K) rfl) (pv 5) (pv 3) (fun _ _ => rfl)) (pa_cons (pv 4) (pa_cons (pe_ix (ix_seqK (K := K) rfl) (pv 2) (pv 3) (fun _ _ => rfl)) pa_nil)))))))))))
    (pss_one (ps_ret (pv 2))))), ?_⟩
  try dsimp only [cxOf, Cx.blk, Cx.nox, Cx.wish]
  (refine body_of h fun W ds P eK f => ?_); subst eK
  obtain ⟨X1, n, rfl, d, n12, hP⟩ := f
  walk_at "pd"
  refine sd_for (it_rng1 ?_)
  unfold flD
  walk_at "pd"
  refine ⟨_, rfl, by rw [List.length_map, d.1]; omega, by omega, fun i δ => ∃ x3 x4 x5 : Option D, δ = [some (cellsD T.k_Cells.C), some (flD X1), some (flD ((List.range i).foldl stepW X1)), x3, x4, x5], ⟨none, none, none, rfl⟩, fun i d' δ hd hI => ?_, fun δ hI => ?_⟩
  · obtain ⟨x3, x4, x5, rfl⟩ := hI
    obtain ⟨hi0, rfl⟩ := rngD_get hd
    rw [List.length_map, d.1] at hi0
    have hi : i < n := by omega
    obtain ⟨dS, _⟩ := foldW d i (by omega)
    generalize hS : (List.range i).foldl stepW X1 = S at *
    have nx : (List.range (i + 1)).foldl stepW X1 = stepW S i := by
      rw [List.range_succ, List.foldl_append, hS]
      rfl
    refine ⟨_, gd_name ?_⟩
    walk_at "pd"
    (refine ev_meth ?_; refine ev_var rfl ?_; refine ⟨_, _, rfl, by decide, ?_⟩)
    walk_at "pd"
    refine rd_ixL (j := i) (by omega) (flD_at (by rw [dS.1]; exact hi)) ?_
    walk_at "pd"
    refine rd_ixL (j := i) (by omega) (rowB_at (by rw [dS.row hi]; exact hi)) ?_
    walk_at "pd"
    refine ⟨_, _, rfl, ?_⟩
    walk_at "pd"
    refine ev_lcM S rowB (fun row => rowB (withP row (row.getD i false) (S.getD i []))) (it_seqL (ev_var rfl ⟨_, rfl, rfl, by rw [dS.1]; omega, fun j x hx => ⟨_, by simp, gd_name ?_⟩, ?_⟩))
    · have lx := dS.2 x (List.mem_of_getElem? hx)
      (refine ev_meth ?_; refine ev_var rfl ?_; refine ⟨_, _, rfl, by decide, ?_⟩)
      walk_at "pd"
      refine rd_ixL (j := i) (by omega) (rowB_at (by omega)) ?_
      walk_at "pd"
      refine rd_ixL (j := i) (by omega) (flD_at (by rw [dS.1]; exact hi)) ?_
      walk_at "pd"
      exact ⟨_, _, _, rfl, by omega, rfl⟩
    · refine ⟨some (.int (0 + (i : Int))), some (.bl true), x5, ?_⟩
      rw [nx]
      unfold stepW flD
      rw [List.map_map]
      rfl
  · obtain ⟨x3, x4, x5, rfl⟩ := hI
    rw [rngD_length, List.length_map]
    walk_at "pd"
    exact hP
def F_Cells_sums {K : PySem.W.Frag} {mg : Str → Option Value} (T : Txt K mg) : FD := fun ds P => ∃ A B : BM, ds = [cellsD T.k_Cells.C, flD A, flD B] ∧ A.length ≤ 12 ∧ (∀ x ∈ A, x.length ≤ 12) ∧ P (flD (sumsB A B))
theorem len_Cells_sums {K : PySem.W.Frag} {mg : Str → Option Value} (T : Txt K mg) : ∀ ds P, (F_Cells_sums T) ds P → ds.length = 3 := by (intro ds P h; first | exact h | (obtain ⟨_, rfl, _⟩ := h; rfl) | (obtain ⟨_, _, rfl, _⟩ := h; rfl) | (obtain ⟨_, _, _, rfl, _⟩ := h; rfl) | (obtain ⟨_, _, _, _, rfl, _⟩ := h; rfl) | (obtain ⟨_, _, _, _, _, rfl, _⟩ := h; rfl) | (obtain ⟨_, _, _, _, _, _, rfl, _⟩ := h; rfl) | (obtain ⟨_, _, _, _, _, _, _, rfl, _⟩ := h; rfl) | (obtain ⟨_, _, _, _, _, _, _, _, rfl, _⟩ := h; rfl) | (obtain ⟨_, _, _, _, _, _, _, _, _, rfl, _⟩ := h; rfl) | (obtain ⟨_, _, _, _, _, _, _, _, _, _, rfl, _⟩ := h; rfl) | (obtain ⟨_, _, _, _, _, _, _, _, _, _, _, rfl, _⟩ := h; rfl) | (obtain ⟨_, _, _, _, _, _, _, _, _, _, _, _, rfl, _⟩ := h; rfl) | (obtain ⟨_, _, _, _, _, _, _, _, _, _, _, _, _, rfl, _⟩ := h; rfl) | (obtain ⟨rfl, _⟩ := h; rfl))
theorem ok_Cells_sums (T : Txt K mg) : FnOk Pg T.w0 K mg base CX0 2 T.D_Cells_sums.f T.D_Cells_sums.d ["self", "one", "other"] ((spD K (F_Cells_sums T))) := by
  have G_Cells_sum_of := ok_Cells_sum_of (Pg := Pg) (base := base) T
  refine T.D_Cells_sums.F.ok (k := 1) sc_Cells_sums (spD_len (len_Cells_sums T)) (fun cdv A outer s H vs Q E hr h => ?_)
  refine ⟨_, (pss_one (ps_ret (pe_lc (own := [("row", 3), ("line", 4)]) rfl sc_Cells_sums.nd (pi_zipAK (K := K) rfl (by rfl) T.n_zip (pa_cons (pv 1) (pa_cons (pv 2) pa_nil))) (blkOk_by (N := ["self", "one", "other", "row", "line", "first", "second"]) (sc := defScope s_Cells_sums) (by decide +kernel)) (fun _ _ _ _ _ => (by exact (pg_tupK (K := K) (n := 2) rfl rfl (pgs_cons (pg_name (i := 3) sc_Cells_sums.nd rfl (by first | exact Or.inl rfl | exact Or.inr rfl)) (pgs_cons (pg_name (i := 4) sc_Cells_sums.nd rfl (by first | exact Or.inl rfl | exact Or.inr rfl)) pgs_nil))))) (fun _ _ _ _ _ => pts_nil) (fun _ _ _ _ _ => (pe_lc (own := [("first", 5), ("second", 6)]) rfl sc_Cells_sums.nd (pi_zipAK (K := K) rfl (by rfl) T.n_zip (pa_cons (pv 3) (pa_cons (pv 4) pa_nil))) (by exact blkOk_by (N := ["self", "one", "other", "row", "line", "first", "second"]) (by kernel_rfl)) (fun _ _ _ _ _ => (by exact (pg_tupK (K := K) (n := 2) rfl rfl (pgs_cons (pg_name (i := 5) sc_Cells_sums.nd rfl (by first | exact Or.inl rfl | exact Or.inr rfl)) (pgs_cons (pg_name (i := 6) sc_Cells_sums.nd rfl (by first | exact Or.inl rfl | exact Or.inr rfl)) pgs_nil))))) (fun _ _ _ _ _ => pts_nil) (fun _ _ _ _ _ => (pe_meth (pv 0) T.k_Cells.o.cl T.mt_Cells_sum_of G_Cells_sum_of (hr.mono (by decide)) T.D_Cells_sum_of.b .nil pass0 (pa_cons (pv 5) (pa_cons (pv 6) pa_nil))))))))), ?_⟩
  try dsimp only [cxOf, Cx.blk, Cx.nox, Cx.wish]
  (refine body_of h fun W ds P eK f => ?_); subst eK
  obtain ⟨X1, X2, rfl, d1, d2, hP⟩ := f
  walk_at "pd"
  refine ev_lcM (X1.zip X2) (fun p => .tup [rowB p.1, rowB p.2]) (fun p => rowB (orR p.1 p.2)) (it_zipL ?_)
  walk_at "pd"
  refine ⟨_, _, rfl, zipD_map _ _ _ _, by rw [List.length_zip]; omega, fun i x hx => ⟨_, ?_, gd_tup2 (gd_name (gd_name ?_))⟩, ?_⟩
  · simp
  · refine ev_mono (ev_lcM (x.1.zip x.2) (fun p => .tup [.bl p.1, .bl p.2]) (fun p => .bl (p.1 || p.2)) (P := fun z => z = rowB (orR x.1 x.2)) (it_zipL ?_)) fun _ z => z
    walk_at "pd"
    have h12 := d2 x.1 (List.of_mem_zip (List.mem_of_getElem? hx)).1
    refine ⟨_, _, rfl, zipD_map _ _ _ _, by rw [List.length_zip]; omega, fun j y hy => ⟨_, ?_, gd_tup2 (gd_name (gd_name ?_))⟩, ?_⟩
    · simp
    · (refine ev_meth ?_; refine ev_var rfl ?_; refine ⟨_, _, rfl, by decide, ?_⟩)
      walk_at "pd"
      exact ⟨_, _, _, rfl, rfl⟩
    · unfold rowB orR
      rw [List.map_zipWith, List.zip, List.map_zipWith]
  · rw [show P (.lst ((X1.zip X2).map fun p => rowB (orR p.1 p.2))) = P (flD (sumsB X1 X2)) by unfold flD sumsB; rw [List.map_zipWith, List.zip, List.map_zipWith]]
    exact hP
def F_Cells_rows_made {K : PySem.W.Frag} {mg : Str → Option Value} (T : Txt K mg) : FD := fun ds P => ∃ (G : Nat → Option BM) (k : Str) (l : List Int) (M : BM) (gs : List D), ds = [cellsD T.k_Cells.C, stD k l, .lst gs] ∧ AtG G gs ∧ MkB G k l M ∧ P (flD M)
theorem len_Cells_rows_made {K : PySem.W.Frag} {mg : Str → Option Value} (T : Txt K mg) : ∀ ds P, (F_Cells_rows_made T) ds P → ds.length = 3 := by (intro ds P h; first | exact h | (obtain ⟨_, rfl, _⟩ := h; rfl) | (obtain ⟨_, _, rfl, _⟩ := h; rfl) | (obtain ⟨_, _, _, rfl, _⟩ := h; rfl) | (obtain ⟨_, _, _, _, rfl, _⟩ := h; rfl) | (obtain ⟨_, _, _, _, _, rfl, _⟩ := h; rfl) | (obtain ⟨_, _, _, _, _, _, rfl, _⟩ := h; rfl) | (obtain ⟨_, _, _, _, _, _, _, rfl, _⟩ := h; rfl) | (obtain ⟨_, _, _, _, _, _, _, _, rfl, _⟩ := h; rfl) | (obtain ⟨_, _, _, _, _, _, _, _, _, rfl, _⟩ := h; rfl) | (obtain ⟨_, _, _, _, _, _, _, _, _, _, rfl, _⟩ := h; rfl) | (obtain ⟨_, _, _, _, _, _, _, _, _, _, _, rfl, _⟩ := h; rfl) | (obtain ⟨_, _, _, _, _, _, _, _, _, _, _, _, rfl, _⟩ := h; rfl) | (obtain ⟨_, _, _, _, _, _, _, _, _, _, _, _, _, rfl, _⟩ := h; rfl) | (obtain ⟨rfl, _⟩ := h; rfl))
theorem ok_Cells_rows_made (T : Txt K mg) : FnOk Pg T.w0 K mg base CX0 4 T.D_Cells_rows_made.f T.D_Cells_rows_made.d ["self", "step", "grids"] ((spD K (F_Cells_rows_made T))) := by
  have G_Cells_products := ok_Cells_products (Pg := Pg) (base := base) T
  have G_Cells_stars := ok_Cells_stars (Pg := Pg) (base := base) T
  have G_Cells_sums := ok_Cells_sums (Pg := Pg) (base := base) T
  have G_moved := ok_moved (Pg := Pg) (base := base) T
  refine T.D_Cells_rows_made.F.ok (k := 3) sc_Cells_rows_made (spD_len (len_Cells_rows_made T)) (fun cdv A outer s H vs Q E hr h => ?_)
  refine ⟨_, (pss_cons (ps_set (i := 3) sc_Cells_rows_made.nd rfl (by first | exact Or.inl rfl | exact Or.inr rfl) (pe_ix (ix_seqK (K := K) rfl) (pv 2) (pe_ix (ix_seqK (K := K) rfl) (pv 1) pe_int (fun _ _ => rfl)) (fun _ _ => rfl)))
    (pss_cons (ps_if (pt_cmpR (op_eqDK (K := K) rfl (hr_u hr)) (pe_ix (ix_seqK (K := K) rfl) (pv 1) pe_int (fun _ _ => rfl)) pe_str (nomark _))
      (pss_one (ps_ret (pe_meth (pv 0) T.k_Cells.o.cl T.mt_Cells_sums G_Cells_sums (hr.mono (by decide)) T.D_Cells_sums.b .nil pass0 (pa_cons (pv 3) (pa_cons (pe_ix (ix_seqK (K := K) rfl) (pv 2) (pe_ix (ix_seqK (K := K) rfl) (pv 1) pe_int (fun _ _ => rfl)) (fun _ _ => rfl)) pa_nil)))))
      pss_nil)
    (pss_cons (ps_if (pt_cmpR (op_eqDK (K := K) rfl (hr_u hr)) (pe_ix (ix_seqK (K := K) rfl) (pv 1) pe_int (fun _ _ => rfl)) pe_str (nomark _))
      (pss_one (ps_ret (pe_meth (pv 0) T.k_Cells.o.cl T.mt_Cells_products G_Cells_products (hr.mono (by decide)) T.D_Cells_products.b .nil pass0 (pa_cons (pv 3) (pa_cons (pe_ix (ix_seqK (K := K) rfl) (pv 2) (pe_ix (ix_seqK (K := K) rfl) (pv 1) pe_int (fun _ _ => rfl)) (fun _ _ => rfl)) pa_nil)))))
      pss_nil)
    (pss_cons (ps_if (pt_cmpR (op_eqDK (K := K) rfl (hr_u hr)) (pe_ix (ix_seqK (K := K) rfl) (pv 1) pe_int (fun _ _ => rfl)) pe_str (nomark _))
      (pss_one (ps_ret (pe_meth (pv 0) T.k_Cells.o.cl T.mt_Cells_stars G_Cells_stars (hr.mono (by decide)) T.D_Cells_stars.b .nil pass0 (pa_cons (pv 3) pa_nil))))
      pss_nil)
    (pss_one (ps_ret (pe_call G_moved (hr.mono (by decide)) (by rfl) T.D_moved.g T.D_moved.F.kp T.D_moved.b .nil pass0 (pa_cons (pv 1) (pa_cons (pv 2) pa_nil))))))))), ?_⟩
  try dsimp only [cxOf, Cx.blk, Cx.nox, Cx.wish]
  (refine body_of h fun W ds P eK f => ?_); subst eK
  obtain ⟨G, k, l, M, gs, rfl, hG, hM, hP⟩ := f
  have hM0 := hM
  have mv : k ≠ "plus" → k ≠ "times" → k ≠ "star" → F_moved [stD k l, .lst gs] P := fun k1 k2 k3 => ⟨G, k, l, M, gs, rfl, hG, hM0, k1, k2, k3, hP⟩
  cases hM with
  | @plus a b r c Z Y g g2 d d2 r12 c12 =>
    unfold stD
    walk_at "pd"
    refine rd_ixL (j := a) (by omega) (hG _ _ g) ?_
    walk_at "pd"
    (refine ev_meth ?_; refine ev_var rfl ?_; refine ⟨_, _, rfl, by decide, ?_⟩)
    walk_at "pd"
    refine rd_ixT (j := 2) rfl rfl ?_
    refine rd_ixL (j := b) (by omega) (hG _ _ g2) ?_
    walk_at "pd"
    rw [← sumsB_eq d d2] at hP
    exact ⟨_, _, rfl, by rw [d.1]; exact r12, fun x hx => by rw [d.2 x hx]; exact c12, hP⟩
  | @times a b r m c Z Y g g2 d d2 m1 r12 m12 c12 =>
    unfold stD
    walk_at "pd"
    refine rd_ixL (j := a) (by omega) (hG _ _ g) ?_
    walk_at "pd"
    (refine ev_meth ?_; refine ev_var rfl ?_; refine ⟨_, _, rfl, by decide, ?_⟩)
    walk_at "pd"
    refine rd_ixT (j := 2) rfl rfl ?_
    refine rd_ixL (j := b) (by omega) (hG _ _ g2) ?_
    walk_at "pd"
    rw [← timesC_eq d d2 m1] at hP
    exact ⟨_, _, _, _, _, rfl, d, d2, r12, m1, m12, c12, hP⟩
  | @star a n Z g d n1 n12 =>
    unfold stD
    walk_at "pd"
    refine rd_ixL (j := a) (by omega) (hG _ _ g) ?_
    walk_at "pd"
    (refine ev_meth ?_; refine ev_var rfl ?_; refine ⟨_, _, rfl, by decide, ?_⟩)
    walk_at "pd"
    rw [← starW_eq d n1] at hP
    exact ⟨_, _, rfl, d, n12, hP⟩
  | @turned a r c Z g d r1 r12 c12 =>
    have mv := mv (by decide) (by decide) (by decide)
    unfold stD at *
    walk_at "pd"
    refine rd_ixL (j := a) (by omega) (hG _ _ g) ?_
    walk_at "pd"
    exact mv
  | @above a b r m c Z Y g g2 d d2 r12 m12 c12 =>
    have mv := mv (by decide) (by decide) (by decide)
    unfold stD at *
    walk_at "pd"
    refine rd_ixL (j := a) (by omega) (hG _ _ g) ?_
    walk_at "pd"
    exact mv
  | @beside a b r m c Z Y g g2 d d2 r12 m12 c12 =>
    have mv := mv (by decide) (by decide) (by decide)
    unfold stD at *
    walk_at "pd"
    refine rd_ixL (j := a) (by omega) (hG _ _ g) ?_
    walk_at "pd"
    exact mv
  | @piece a i j h w r c Z g d ir jc h1 w1 r12 c12 =>
    have mv := mv (by decide) (by decide) (by decide)
    unfold stD at *
    walk_at "pd"
    refine rd_ixL (j := a) (by omega) (hG _ _ g) ?_
    walk_at "pd"
    exact mv
def F_Cells_put_in : FD := fun ds P => ∃ a b c d e : D, ds = [a, b, c, d, e] ∧ P (.bl true)
theorem len_Cells_put_in : ∀ ds P, F_Cells_put_in ds P → ds.length = 5 := by (intro ds P h; first | exact h | (obtain ⟨_, rfl, _⟩ := h; rfl) | (obtain ⟨_, _, rfl, _⟩ := h; rfl) | (obtain ⟨_, _, _, rfl, _⟩ := h; rfl) | (obtain ⟨_, _, _, _, rfl, _⟩ := h; rfl) | (obtain ⟨_, _, _, _, _, rfl, _⟩ := h; rfl) | (obtain ⟨_, _, _, _, _, _, rfl, _⟩ := h; rfl) | (obtain ⟨_, _, _, _, _, _, _, rfl, _⟩ := h; rfl) | (obtain ⟨_, _, _, _, _, _, _, _, rfl, _⟩ := h; rfl) | (obtain ⟨_, _, _, _, _, _, _, _, _, rfl, _⟩ := h; rfl) | (obtain ⟨_, _, _, _, _, _, _, _, _, _, rfl, _⟩ := h; rfl) | (obtain ⟨_, _, _, _, _, _, _, _, _, _, _, rfl, _⟩ := h; rfl) | (obtain ⟨_, _, _, _, _, _, _, _, _, _, _, _, rfl, _⟩ := h; rfl) | (obtain ⟨_, _, _, _, _, _, _, _, _, _, _, _, _, rfl, _⟩ := h; rfl) | (obtain ⟨rfl, _⟩ := h; rfl))
theorem ok_Cells_put_in (T : Txt K mg) : FnOk Pg T.w0 K mg base CX0 1 T.D_Cells_put_in.f T.D_Cells_put_in.d ["self", "number", "i", "j", "unit"] ((spD K F_Cells_put_in)) := by
  refine T.D_Cells_put_in.F.ok (k := 0) sc_Cells_put_in (spD_len (len_Cells_put_in)) (fun cdv A outer s H vs Q E hr h => ?_)
  refine ⟨_, (pss_one (ps_ret pe_bl)), ?_⟩
  try dsimp only [cxOf, Cx.blk, Cx.nox, Cx.wish]
  (refine body_of h fun W ds P eK f => ?_); subst eK
  obtain ⟨a, b, c, d, e, rfl, hP⟩ := f
  walk_at "pd"
  exact hP
def F_Cells_rows_put_in {K : PySem.W.Frag} {mg : Str → Option Value} (T : Txt K mg) : FD := fun ds P => ∃ (x b : D) (rows : List (List D)), ds = [cellsD T.k_Cells.C, x, .ins T.k_Grid.C ["bases", "rows"] [b, .tup (rows.map .tup)]] ∧ rows.length ≤ 12 ∧ (∀ r ∈ rows, r.length ≤ 12) ∧ P (flD (rows.map thereR))
theorem len_Cells_rows_put_in {K : PySem.W.Frag} {mg : Str → Option Value} (T : Txt K mg) : ∀ ds P, (F_Cells_rows_put_in T) ds P → ds.length = 3 := by (intro ds P h; first | exact h | (obtain ⟨_, rfl, _⟩ := h; rfl) | (obtain ⟨_, _, rfl, _⟩ := h; rfl) | (obtain ⟨_, _, _, rfl, _⟩ := h; rfl) | (obtain ⟨_, _, _, _, rfl, _⟩ := h; rfl) | (obtain ⟨_, _, _, _, _, rfl, _⟩ := h; rfl) | (obtain ⟨_, _, _, _, _, _, rfl, _⟩ := h; rfl) | (obtain ⟨_, _, _, _, _, _, _, rfl, _⟩ := h; rfl) | (obtain ⟨_, _, _, _, _, _, _, _, rfl, _⟩ := h; rfl) | (obtain ⟨_, _, _, _, _, _, _, _, _, rfl, _⟩ := h; rfl) | (obtain ⟨_, _, _, _, _, _, _, _, _, _, rfl, _⟩ := h; rfl) | (obtain ⟨_, _, _, _, _, _, _, _, _, _, _, rfl, _⟩ := h; rfl) | (obtain ⟨_, _, _, _, _, _, _, _, _, _, _, _, rfl, _⟩ := h; rfl) | (obtain ⟨_, _, _, _, _, _, _, _, _, _, _, _, _, rfl, _⟩ := h; rfl) | (obtain ⟨rfl, _⟩ := h; rfl))
theorem ok_Cells_rows_put_in (T : Txt K mg) : FnOk Pg T.w0 K mg base CX0 2 T.D_Cells_rows_put_in.f T.D_Cells_rows_put_in.d ["self", "number", "grid"] ((spD K (F_Cells_rows_put_in T))) := by
  have G_Cells_put_in := ok_Cells_put_in (Pg := Pg) (base := base) T
  refine T.D_Cells_rows_put_in.F.ok (k := 1) sc_Cells_rows_put_in (spD_len (len_Cells_rows_put_in T)) (fun cdv A outer s H vs Q E hr h => ?_)
  refine ⟨_, (pss_cons (ps_set (i := 3) sc_Cells_rows_put_in.nd rfl (by first | exact Or.inl rfl | exact Or.inr rfl) (pe_lst pa_nil))
    (pss_cons (ps_for PassesOwn.never rfl (pi_enumT (K := K) rfl (by rfl) T.n_enumerate (pa_cons (pe_fldK (K := K) rfl (pv 2) rfl) pa_nil)) (by exact (pg_tupK (K := K) (n := 2) rfl rfl (pgs_cons (pg_name (i := 4) sc_Cells_rows_put_in.nd rfl (by first | exact Or.inl rfl | exact Or.inr rfl)) (pgs_cons (pg_name (i := 5) sc_Cells_rows_put_in.nd rfl (by first | exact Or.inl rfl | exact Or.inr rfl)) pgs_nil))))
      (pss_one (ps_expr (pe_bm PySem.F.plainAttrs_list PySem.F.slot_list_append PySem.F.type_list_append mt_append (pv 3) (pa_cons (pe_lc (own := [("j", 6), ("unit", 7)]) rfl sc_Cells_rows_put_in.nd (pi_enumT (K := K) rfl (by rfl) T.n_enumerate (pa_cons (pv 5) pa_nil)) (blkOk_by (N := ["self", "number", "grid", "rows", "i", "row", "j", "unit"]) (sc := defScope s_Cells_rows_put_in) (by decide +kernel)) (fun _ _ _ _ _ => (by exact (pg_tupK (K := K) (n := 2) rfl rfl (pgs_cons (pg_name (i := 6) sc_Cells_rows_put_in.nd rfl (by first | exact Or.inl rfl | exact Or.inr rfl)) (pgs_cons (pg_name (i := 7) sc_Cells_rows_put_in.nd rfl (by first | exact Or.inl rfl | exact Or.inr rfl)) pgs_nil))))) (fun _ _ _ _ _ => pts_nil) (fun _ _ _ _ _ => (pe_ifExp (pt_cmpR op_isN (pv 7) pe_non (nomark _)) (pe_fldK (K := K) rfl (pv 0) rfl) (pe_meth (pv 0) T.k_Cells.o.cl T.mt_Cells_put_in G_Cells_put_in (hr.mono (by decide)) T.D_Cells_put_in.b .nil pass0 (pa_cons (pv 1) (pa_cons (pv 4) (pa_cons (pv 6) (pa_cons (pv 7) pa_nil)))))))) pa_nil)))))
    (pss_one (ps_ret (pv 3))))), ?_⟩
  try dsimp only [cxOf, Cx.blk, Cx.nox, Cx.wish]
  refine body_ofO h fun W ds P eK f => ?_
  subst eK
  obtain ⟨x, b, rows, rfl, l12, r12, hP⟩ := f
  refine so_seq (so_new ?_)
  walk_at "pd"
  refine fun p _ => ?_
  refine so_seq (so_for (it_enumT ?_))
  walk_at "pd"
  (refine ev_fld ?_; refine ev_var rfl ?_; refine ⟨_, _, _, _, rfl, T.k_Grid.o.cl, T.na_Grid_rows, rfl, ?_⟩)
  walk_at "pd"
  refine ⟨_, rfl, fun i ω δ => ∃ x4 x5 x6 x7 : Option D, Has ω p (((rows.take i).map thereR).map rowB) ∧ δ = [some (cellsD T.k_Cells.C), some x, some (.ins T.k_Grid.C ["bases", "rows"] [b, .tup (rows.map .tup)]), some (.obj p), x4, x5, x6, x7], ⟨none, none, none, none, Has.new (fun x hx => by cases hx), rfl⟩, fun i d ω δ hd hI => ?_, fun ω δ hI => ?_⟩
  · obtain ⟨x4, x5, x6, x7, hp, rfl⟩ := hI
    obtain ⟨d', hd', rfl⟩ := enumD_get hd
    rw [List.getElem?_map] at hd'
    obtain ⟨row, hrow, rfl⟩ : ∃ row, rows[i]? = some row ∧ d' = .tup row := by
      cases e : rows[i]? with
      | none => rw [e] at hd'; cases hd'
      | some row => rw [e] at hd'; cases hd'; exact ⟨row, rfl, rfl⟩
    have lrow := r12 row (List.mem_of_getElem? hrow)
    refine ⟨_, gd_tup2 (gd_name (gd_name ?_))⟩
    refine so_app (i := 3) rfl hp.1 (fun es m => by rw [hp.2 es m, List.length_map, List.length_map, List.length_take]; omega) ?_
    walk_at "pd"
    refine ev_lcM (List.range row.length) (fun (k : Nat) => .tup [.int (k : Int), row.getD k .non]) (fun (k : Nat) => .bl (!(row.getD k .non).isNon)) (it_enumT ?_)
    walk_at "pd"
    refine ⟨_, rfl, enumM row, by rw [List.length_range]; omega, fun k k' hk => ⟨_, ?_, gd_tup2 (gd_name (gd_name ?_))⟩, ?_⟩
    · simp
    · obtain ⟨u, rfl⟩ := range_get hk
      walk_at "pd"
      refine ⟨fun z => ?_, fun z => ?_⟩
      · (refine ev_fld ?_; refine ev_var rfl ?_; refine ⟨_, _, _, _, rfl, T.k_Cells.o.cl, T.na_Cells_nought, rfl, ?_⟩)
        rw [z]
        rfl
      · (refine ev_meth ?_; refine ev_var rfl ?_; refine ⟨_, _, rfl, by decide, ?_⟩)
        walk_at "pd"
        refine ⟨_, _, _, _, _, rfl, ?_⟩
        rw [z]
        rfl
    · walk_at "pd"
      rw [thereM]
      have nx : (((rows.take (i + 1)).map thereR).map rowB) = ((rows.take i).map thereR).map rowB ++ [rowB (thereR row)] := by
        rw [← take_snoc hrow, List.map_append, List.map_append]
        rfl
      refine ⟨_, rfl, some (.int (i : Int)), some (.tup row), x6, x7, ?_, rfl⟩
      rw [nx]
      exact hp.put
  · obtain ⟨x4, x5, x6, x7, hp, rfl⟩ := hI
    have e : rows.take (enumD (rows.map D.tup)).length = rows := by
      apply List.take_of_length_le
      rw [enumD_length, List.length_map]
      exact Nat.le_refl _
    rw [e] at hp
    exact so_retO (i := 3) rfl hp.1 hP
theorem mem_two {k : Str} {a b : Int} (hk : kindLen.lookup k = some 3) : a ∈ srcs k [a, b] ∧ b ∈ srcs k [a, b] := by
  unfold srcs
  rw [if_pos hk]
  simp
theorem mem_one {k : Str} {a : Int} {l : List Int} (hk : kindLen.lookup k ≠ some 3) : a ∈ srcs k (a :: l) := by
  unfold srcs
  rw [if_neg hk]
  simp
theorem mkb_mono {G G' : Nat → Option BM} {k : Str} {l : List Int} {M : BM} (h : MkB G k l M) (hG : ∀ (a : Nat) (A : BM), (a : Int) ∈ srcs k l → G a = some A → G' a = some A) : MkB G' k l M := by
  cases h with
  | plus g g2 d d2 a b => exact .plus (hG _ _ (mem_two rfl).1 g) (hG _ _ (mem_two rfl).2 g2) d d2 a b
  | times g g2 d d2 m a b c => exact .times (hG _ _ (mem_two rfl).1 g) (hG _ _ (mem_two rfl).2 g2) d d2 m a b c
  | beside g g2 d d2 a b c => exact .beside (hG _ _ (mem_two rfl).1 g) (hG _ _ (mem_two rfl).2 g2) d d2 a b c
  | above g g2 d d2 a b c => exact .above (hG _ _ (mem_two rfl).1 g) (hG _ _ (mem_two rfl).2 g2) d d2 a b c
  | turned g d a b c => exact .turned (hG _ _ (mem_one (by decide +kernel)) g) d a b c
  | star g d a b => exact .star (hG _ _ (mem_one (by decide +kernel)) g) d a b
  | piece g d a b c e f x => exact .piece (hG _ _ (mem_one (by decide +kernel)) g) d a b c e f x
theorem full_of {M : BM} {a b : Nat} (d : DimB M a b) (h1 : 1 ≤ a) (h2 : 1 ≤ b) : FullB M := ⟨fun e => by
  have := d.1
  rw [e] at this
  simp at this
  omega, fun r hr e => by
  have := d.2 r hr
  rw [e] at this
  simp at this
  omega⟩
theorem gridF_of {M : BM} (h : FullB M) : GridF (flD M) := by
  cases M with
  | nil => exact absurd rfl h.1
  | cons r N => exact .inr ⟨r, N, rfl⟩
def F_Cells_grids_of {K : PySem.W.Frag} {mg : Str → Option Value} (T : Txt K mg) : FD := fun ds P => ∃ (gs : List (D × List (List D))) (sts : List (Str × List Int)) (F : List BM) (r : List Sh) (a : Nat) (L : List Bool), ds = [cellsD T.k_Cells.C, scF T.k_Script.C T.k_Grid.C gs sts r, rowB L] ∧ ScF T.k_Grid.C gs sts F r ∧ a < gs.length + sts.length ∧ L.length = a + 1 ∧
  (∀ i, i ≤ a → L.getD i false = true → ∀ s, sts[i - gs.length]? = some s → gs.length ≤ i → ∀ j ∈ srcs s.1 s.2, L.getD j.toNat false = true) ∧ ∀ l : List D, (∀ i M, i ≤ a → L.getD i false = true → F[i]? = some M → l[i]? = some (flD M)) → P (.lst l)
theorem len_Cells_grids_of {K : PySem.W.Frag} {mg : Str → Option Value} (T : Txt K mg) : ∀ ds P, (F_Cells_grids_of T) ds P → ds.length = 3 := by (intro ds P h; first | exact h | (obtain ⟨_, rfl, _⟩ := h; rfl) | (obtain ⟨_, _, rfl, _⟩ := h; rfl) | (obtain ⟨_, _, _, rfl, _⟩ := h; rfl) | (obtain ⟨_, _, _, _, rfl, _⟩ := h; rfl) | (obtain ⟨_, _, _, _, _, rfl, _⟩ := h; rfl) | (obtain ⟨_, _, _, _, _, _, rfl, _⟩ := h; rfl) | (obtain ⟨_, _, _, _, _, _, _, rfl, _⟩ := h; rfl) | (obtain ⟨_, _, _, _, _, _, _, _, rfl, _⟩ := h; rfl) | (obtain ⟨_, _, _, _, _, _, _, _, _, rfl, _⟩ := h; rfl) | (obtain ⟨_, _, _, _, _, _, _, _, _, _, rfl, _⟩ := h; rfl) | (obtain ⟨_, _, _, _, _, _, _, _, _, _, _, rfl, _⟩ := h; rfl) | (obtain ⟨_, _, _, _, _, _, _, _, _, _, _, _, rfl, _⟩ := h; rfl) | (obtain ⟨_, _, _, _, _, _, _, _, _, _, _, _, _, rfl, _⟩ := h; rfl) | (obtain ⟨rfl, _⟩ := h; rfl))
theorem ok_Cells_grids_of (T : Txt K mg) : FnOk Pg T.w0 K mg base CX0 5 T.D_Cells_grids_of.f T.D_Cells_grids_of.d ["self", "script", "wanted"] ((spD K (F_Cells_grids_of T))) := by
  have G_Cells_rows_made := ok_Cells_rows_made (Pg := Pg) (base := base) T
  have G_Cells_rows_put_in := ok_Cells_rows_put_in (Pg := Pg) (base := base) T
  refine T.D_Cells_grids_of.F.ok (k := 4) sc_Cells_grids_of (spD_len (len_Cells_grids_of T)) (fun cdv A outer s H vs Q E hr h => ?_)
  refine ⟨_, (pss_cons (ps_set (i := 3) sc_Cells_grids_of.nd rfl (by first | exact Or.inl rfl | exact Or.inr rfl) (pe_callB (call_lenK (K := K) rfl) (by rfl) T.n_len (by decide +kernel) (pa_cons (pe_fldK (K := K) rfl (pv 1) rfl) pa_nil)))
    (pss_cons (ps_set (i := 4) sc_Cells_grids_of.nd rfl (by first | exact Or.inl rfl | exact Or.inr rfl) (pe_lst pa_nil))
    (pss_cons (ps_for PassesOwn.never rfl (pi_enumAK (K := K) rfl (by rfl) T.n_enumerate (pa_cons (pv 2) pa_nil)) (by exact (pg_tupK (K := K) (n := 2) rfl rfl (pgs_cons (pg_name (i := 5) sc_Cells_grids_of.nd rfl (by first | exact Or.inl rfl | exact Or.inr rfl)) (pgs_cons (pg_name (i := 6) sc_Cells_grids_of.nd rfl (by first | exact Or.inl rfl | exact Or.inr rfl)) pgs_nil))))
      (pss_one (ps_if (pt_not (pt_val (pv 6)))
      (pss_one (ps_expr (pe_bm PySem.F.plainAttrs_list PySem.F.slot_list_append PySem.F.type_list_append mt_append (pv 4) (pa_cons pe_non pa_nil))))
      (pss_one (ps_if (pt_cmpR op_lt (pv 5) (pv 3) (nomark _))
      (pss_one (ps_expr (pe_bm PySem.F.plainAttrs_list PySem.F.slot_list_append PySem.F.type_list_append mt_append (pv 4) (pa_cons (pe_meth (pv 0) T.k_Cells.o.cl T.mt_Cells_rows_put_in G_Cells_rows_put_in (hr.mono (by decide)) T.D_Cells_rows_put_in.b .nil pass0 (pa_cons (pv 5) (pa_cons (pe_ix (ix_seqK (K := K) rfl) (pe_fldK (K := K) rfl (pv 1) rfl) (pv 5) (fun _ _ => rfl)) pa_nil))) pa_nil))))
      (pss_one (ps_expr (pe_bm PySem.F.plainAttrs_list PySem.F.slot_list_append PySem.F.type_list_append mt_append (pv 4) (pa_cons (pe_meth (pv 0) T.k_Cells.o.cl T.mt_Cells_rows_made G_Cells_rows_made (hr.mono (by decide)) T.D_Cells_rows_made.b .nil pass0 (pa_cons (pe_ix (ix_seqK (K := K) rfl) (pe_fldK (K := K) rfl (pv 1) rfl) (pe_op op_sub (pv 5) (pv 3)) (fun _ _ => rfl)) (pa_cons (pv 4) pa_nil))) pa_nil)))))))))
    (pss_one (ps_ret (pv 4)))))), ?_⟩
  try dsimp only [cxOf, Cx.blk, Cx.nox, Cx.wish]
  refine body_ofO h fun W ds P eK f => ?_
  subst eK
  obtain ⟨gs, sts, F, r, a, L, rfl, hS, al, lL, hc, hP⟩ := f
  have g30 := hS.few
  unfold scF
  refine so_seq (so_asg ?_)
  walk_at "pd"
  refine ev_fld ?_
  refine ev_var rfl ?_
  refine ⟨_, _, _, _, rfl, T.k_Script.o.cl, T.na_Script_grids, rfl, ?_⟩
  walk_at "pd"
  rw [List.length_map]
  refine so_seq (so_new ?_)
  walk_at "pd"
  refine fun p fresh => ?_
  refine so_seq (so_for (it_enumAL ?_))
  walk_at "pd"
  refine ⟨_, rfl, fun k ω δ => ∃ (gl : List D) (x5 x6 : Option D), Has ω p gl ∧ (∀ x ∈ ω, x.1 = p) ∧ (∀ y ∈ gl, GridF y) ∧ gl.length = k ∧ (∀ i M, i < k → L.getD i false = true → F[i]? = some M → gl[i]? = some (flD M)) ∧ δ = [some (cellsD T.k_Cells.C), some (scD T.k_Script.C (.tup (gs.map (gridD T.k_Grid.C))) (.tup (sts.map fun s => stD s.1 s.2)) r), some (rowB L), some (.int (gs.length : Int)), some (.obj p), x5, x6],
    ⟨[], none, none, Has.new fresh, (fun x hx => by rw [List.mem_singleton.mp hx]), (fun y hy => by cases hy), rfl, fun i M h => absurd h (Nat.not_lt_zero i), rfl⟩, fun k d ω δ hd hI => ?_, fun ω δ hI => ?_⟩
  · obtain ⟨gl, x5, x6, hp, ho, hF, hl, hg, rfl⟩ := hI
    obtain ⟨b', hb', rfl⟩ := enumD_get hd
    rw [List.getElem?_map] at hb'
    obtain ⟨b, hb, rfl⟩ : ∃ b, L[k]? = some b ∧ b' = .bl b := by
      cases e : L[k]? with
      | none => rw [e] at hb'; cases hb'
      | some b => rw [e] at hb'; cases hb'; exact ⟨b, rfl, rfl⟩
    have ka : k ≤ a := by have := (List.getElem?_eq_some_iff.mp hb).1; omega
    have hLk : L.getD k false = b := by rw [List.getD_eq_getElem?_getD, hb]; rfl
    have more : ∀ y : D, GridF y → (b = true → ∀ M, F[k]? = some M → y = flD M) → ∃ (gl' : List D) (x5 x6 : Option D), Has (putO ω p fun es => es ++ [y]) p gl' ∧ (∀ x ∈ putO ω p fun es => es ++ [y], x.1 = p) ∧ (∀ y ∈ gl', GridF y) ∧ gl'.length = k + 1 ∧ (∀ i M, i < k + 1 → L.getD i false = true → F[i]? = some M → gl'[i]? = some (flD M)) ∧ [some (cellsD T.k_Cells.C), some (scD T.k_Script.C (.tup (gs.map (gridD T.k_Grid.C))) (.tup (sts.map fun s => stD s.1 s.2)) r), some (rowB L), some (.int (gs.length : Int)), some (.obj p), some (.int (k : Int)), some (.bl b)] = [some (cellsD T.k_Cells.C), some (scD T.k_Script.C (.tup (gs.map (gridD T.k_Grid.C))) (.tup (sts.map fun s => stD s.1 s.2)) r), some (rowB L), some (.int (gs.length : Int)), some (.obj p), x5, x6] := fun y gy hy =>
      ⟨gl ++ [y], _, _, hp.put, fun x hx => by
        obtain ⟨⟨c, ds⟩, h1, h2⟩ := List.mem_map.mp hx
        have := ho _ h1
        simp only at this
        subst this
        rw [if_pos rfl] at h2
        rw [← h2], fun z hz => by
        rcases List.mem_append.mp hz with q | q
        · exact hF z q
        · rw [List.mem_singleton.mp q]; exact gy, by simp [hl], fun i M h1 h2 h3 => by
        rcases Nat.lt_or_ge i k with q | q
        · rw [List.getElem?_append_left (by omega)]
          exact hg i M q h2 h3
        · have : i = k := by omega
          subst this
          rw [List.getElem?_append_right (by omega), hl, Nat.sub_self, hy (by rw [← hLk]; exact h2) M h3]
          rfl, rfl⟩
    refine ⟨_, gd_tup2 (gd_name (gd_name ?_))⟩
    refine so_if ?_
    walk_at "pd"
    refine ⟨fun z => ?_, fun z => ?_⟩
    · refine so_app (i := 4) rfl hp.1 (fun es m => by rw [hp.2 es m]; omega) ?_
      walk_at "pd"
      exact ⟨_, rfl, more .non (.inl rfl) fun z2 => by subst z2; cases z⟩
    · have bt : b = true := by simpa using z
      subst bt
      refine so_if ?_
      walk_at "pd"
      refine ⟨fun z => ?_, fun z => ?_⟩
      · have zk : k < gs.length := by have := of_decide_eq_true z; omega
        obtain ⟨x, hx⟩ : ∃ x, gs[k]? = some x := ⟨_, List.getElem?_eq_getElem zk⟩
        obtain ⟨f1, f2, f3⟩ := hS.giv k x hx
        refine so_app (i := 4) rfl hp.1 (fun es m => by rw [hp.2 es m]; omega) ?_
        walk_at "pd"
        (refine ev_meth ?_; refine ev_var rfl ?_; refine ⟨_, _, rfl, by decide, ?_⟩)
        walk_at "pd"
        refine ev_fld ?_
        refine ev_var rfl ?_
        refine ⟨_, _, _, _, rfl, T.k_Script.o.cl, T.na_Script_grids, rfl, ?_⟩
        walk_at "pd"
        refine rd_ixT (j := k) (by omega) (by rw [List.getElem?_map, hx]; rfl) ?_
        walk_at "pd"
        refine ⟨_, _, x.2, rfl, f2, f3, ?_⟩
        walk_at "pd"
        obtain ⟨sh, hsh⟩ : ∃ sh, r[k]? = some sh := ⟨_, List.getElem?_eq_getElem (by rw [hS.lr]; omega)⟩
        obtain ⟨u1, u2, _, d1, d2, d3, _⟩ := hS.dim k _ sh f1 hsh
        exact ⟨_, rfl, more _ (gridF_of (full_of d1 d2 d3)) fun _ M hM => by rw [f1] at hM; cases hM; rfl⟩
      · have zk : gs.length ≤ k := by have := of_decide_eq_false z; omega
        obtain ⟨s0, hs0⟩ : ∃ s0, sts[k - gs.length]? = some s0 := ⟨_, List.getElem?_eq_getElem (by omega)⟩
        obtain ⟨M0, hF0, hM0⟩ := hS.mks _ _ hs0
        have ek : gs.length + (k - gs.length) = k := by omega
        rw [ek] at hF0 hM0
        have hM1 : MkB (fun c => if c < k ∧ L.getD c false = true then F[c]? else none) s0.1 s0.2 M0 := mkb_mono hM0 fun c A hm hA => by
          have wc := hc k ka hLk s0 hs0 zk _ hm
          by_cases q : c < k
          · rw [if_pos q] at hA
            rw [if_pos ⟨q, by simpa using wc⟩]
            exact hA
          · rw [if_neg q] at hA
            cases hA
        have hG : AtG (fun c => if c < k ∧ L.getD c false = true then F[c]? else none) gl := fun c A hA => by
          have hA : (if c < k ∧ L.getD c false = true then F[c]? else none) = some A := hA
          by_cases q : c < k ∧ L.getD c false = true
          · rw [if_pos q] at hA
            exact hg c A q.1 q.2 hA
          · rw [if_neg q] at hA
            cases hA
        obtain ⟨sh, hsh⟩ : ∃ sh, r[k]? = some sh := ⟨_, List.getElem?_eq_getElem (by rw [hS.lr]; omega)⟩
        obtain ⟨u1, u2, _, d1, d2, d3, _⟩ := hS.dim k _ sh hF0 hsh
        have fl := full_of d1 d2 d3
        obtain ⟨y0, hy0⟩ : ∃ y0, gl[0]? = some y0 := ⟨_, List.getElem?_eq_getElem (by have := hS.one; omega)⟩
        refine so_appQ (i := 4) rfl hp ho (by omega) hy0 (hF _ (List.mem_of_getElem? hy0)) (evl_put (a := p) 4 rfl hp.1 (evl_ev ?_))
        (refine ev_meth ?_; refine ev_var rfl ?_; refine ⟨_, _, rfl, by decide, ?_⟩)
        walk_at "pd"
        refine ev_fld ?_
        refine ev_var rfl ?_
        refine ⟨_, _, _, _, rfl, T.k_Script.o.cl, T.na_Script_steps, rfl, ?_⟩
        walk_at "pd"
        refine rd_ixT (j := k - gs.length) (by omega) (by rw [List.getElem?_map, hs0]; rfl) ?_
        walk_at "pd"
        refine ⟨_, _, _, M0, gl, rfl, hG, hM1, M0, rfl, fl, more _ (gridF_of fl) fun _ M hM => by rw [hF0] at hM; cases hM; rfl⟩
  · obtain ⟨gl, x5, x6, hp, ho, hF, hl, hg, rfl⟩ := hI
    rw [enumD_length, List.length_map, lL] at hg
    exact so_retO (i := 4) rfl hp.1 (hP gl fun i M h1 h2 h3 => hg i M (by omega) h2 h3)
def F_Cells_grids_to {K : PySem.W.Frag} {mg : Str → Option Value} (T : Txt K mg) : FD := fun ds P => ∃ (gs : List (D × List (List D))) (sts : List (Str × List Int)) (F : List BM) (r : List Sh) (a : Nat) (M : BM), ds = [cellsD T.k_Cells.C, scF T.k_Script.C T.k_Grid.C gs sts r, .int (a : Int)] ∧ ScF T.k_Grid.C gs sts F r ∧ F[a]? = some M ∧ ∀ l : List D, l[a]? = some (flD M) → P (.lst l)
theorem len_Cells_grids_to {K : PySem.W.Frag} {mg : Str → Option Value} (T : Txt K mg) : ∀ ds P, (F_Cells_grids_to T) ds P → ds.length = 3 := by (intro ds P h; first | exact h | (obtain ⟨_, rfl, _⟩ := h; rfl) | (obtain ⟨_, _, rfl, _⟩ := h; rfl) | (obtain ⟨_, _, _, rfl, _⟩ := h; rfl) | (obtain ⟨_, _, _, _, rfl, _⟩ := h; rfl) | (obtain ⟨_, _, _, _, _, rfl, _⟩ := h; rfl) | (obtain ⟨_, _, _, _, _, _, rfl, _⟩ := h; rfl) | (obtain ⟨_, _, _, _, _, _, _, rfl, _⟩ := h; rfl) | (obtain ⟨_, _, _, _, _, _, _, _, rfl, _⟩ := h; rfl) | (obtain ⟨_, _, _, _, _, _, _, _, _, rfl, _⟩ := h; rfl) | (obtain ⟨_, _, _, _, _, _, _, _, _, _, rfl, _⟩ := h; rfl) | (obtain ⟨_, _, _, _, _, _, _, _, _, _, _, rfl, _⟩ := h; rfl) | (obtain ⟨_, _, _, _, _, _, _, _, _, _, _, _, rfl, _⟩ := h; rfl) | (obtain ⟨_, _, _, _, _, _, _, _, _, _, _, _, _, rfl, _⟩ := h; rfl) | (obtain ⟨rfl, _⟩ := h; rfl))
theorem ok_Cells_grids_to (T : Txt K mg) : FnOk Pg T.w0 K mg base CX0 6 T.D_Cells_grids_to.f T.D_Cells_grids_to.d ["self", "script", "at"] ((spD K (F_Cells_grids_to T))) := by
  have G_Cells_grids_of := ok_Cells_grids_of (Pg := Pg) (base := base) T
  have G_leading := ok_leading (Pg := Pg) (base := base) T
  refine T.D_Cells_grids_to.F.ok (k := 5) sc_Cells_grids_to (spD_len (len_Cells_grids_to T)) (fun cdv A outer s H vs Q E hr h => ?_)
  refine ⟨_, (pss_one (ps_ret (pe_meth (pv 0) T.k_Cells.o.cl T.mt_Cells_grids_of G_Cells_grids_of (hr.mono (by decide)) T.D_Cells_grids_of.b .nil pass0 (pa_cons (pv 1) (pa_cons (pe_call G_leading (hr.mono (by decide)) (by rfl) T.D_leading.g T.D_leading.F.kp T.D_leading.b .nil pass0 (pa_cons (pv 1) (pa_cons (pv 2) pa_nil))) pa_nil))))), ?_⟩
  try dsimp only [cxOf, Cx.blk, Cx.nox, Cx.wish]
  (refine body_of h fun W ds P eK f => ?_); subst eK
  obtain ⟨gs, sts, F, r, a, M, rfl, hS, hF, hP⟩ := f
  have al : a < gs.length + sts.length := by rw [← hS.len]; exact (List.getElem?_eq_some_iff.mp hF).1
  walk_at "pd"
  (refine ev_meth ?_; refine ev_var rfl ?_; refine ⟨_, _, rfl, by decide, ?_⟩)
  walk_at "pd"
  refine ⟨gs, sts, F, r, a, rfl, hS, al, fun L lL ha hc => ?_⟩
  walk_at "pd"
  exact ⟨gs, sts, F, r, a, L, rfl, hS, al, lL, hc, fun l hl => hP l (hl a M (Nat.le_refl a) ha hF)⟩
def F_is_nought {K : PySem.W.Frag} {mg : Str → Option Value} (T : Txt K mg) : FX := fun ds P X => ∃ (gs : List (D × List (List D))) (sts : List (Str × List Int)) (F : List BM) (r : List Sh) (a i j : D), ds = [scF T.k_Script.C T.k_Grid.C gs sts r, a, i, j] ∧ ScF T.k_Grid.C gs sts F r ∧ Jd1 K a ∧ Jd1 K i ∧ Jd1 K j ∧
  (isIx r.length a = false → X (T.x_NoGrid.C, [])) ∧ (isIx r.length a = true → (inI i (shAt r a.toI).1 && inI j (shAt r a.toI).2) = false → X (T.x_NoCell.C, [])) ∧ (isIx r.length a = true → (inI i (shAt r a.toI).1 && inI j (shAt r a.toI).2) = true → ∀ b, P (.bl b))
theorem len_is_nought {K : PySem.W.Frag} {mg : Str → Option Value} (T : Txt K mg) : ∀ ds P X, (F_is_nought T) ds P X → ds.length = 4 := by (intro ds P X h; first | exact h | (obtain ⟨_, rfl, _⟩ := h; rfl) | (obtain ⟨_, _, rfl, _⟩ := h; rfl) | (obtain ⟨_, _, _, rfl, _⟩ := h; rfl) | (obtain ⟨_, _, _, _, rfl, _⟩ := h; rfl) | (obtain ⟨_, _, _, _, _, rfl, _⟩ := h; rfl) | (obtain ⟨_, _, _, _, _, _, rfl, _⟩ := h; rfl) | (obtain ⟨_, _, _, _, _, _, _, rfl, _⟩ := h; rfl) | (obtain ⟨_, _, _, _, _, _, _, _, rfl, _⟩ := h; rfl) | (obtain ⟨_, _, _, _, _, _, _, _, _, rfl, _⟩ := h; rfl) | (obtain ⟨_, _, _, _, _, _, _, _, _, _, rfl, _⟩ := h; rfl) | (obtain ⟨_, _, _, _, _, _, _, _, _, _, _, rfl, _⟩ := h; rfl) | (obtain ⟨_, _, _, _, _, _, _, _, _, _, _, _, rfl, _⟩ := h; rfl) | (obtain ⟨_, _, _, _, _, _, _, _, _, _, _, _, _, rfl, _⟩ := h; rfl) | (obtain ⟨rfl, _⟩ := h; rfl))
theorem ok_is_nought (T : Txt K mg) : FnOk Pg T.w0 K mg base (L2.CX Pg T.w0) 7 T.D_is_nought.f T.D_is_nought.d ["script", "at", "i", "j"] ((spX K (F_is_nought T))) := by
  have G_Cells___init__ := ok_Cells___init__ (Pg := Pg) (base := base) T
  have G_Cells_grids_to := ok_Cells_grids_to (Pg := Pg) (base := base) T
  have G_check_cell := ok_check_cell (Pg := Pg) (base := base) T
  refine T.D_is_nought.F.okX (k := 6) sc_is_nought (spX_len (len_is_nought T)) (fun cdv A outer s H vs Q E hr h => ?_)
  refine ⟨_, (pss_cons (ps_expr (pe_callS G_check_cell (hr.mono (by decide)) (by rfl) T.D_check_cell.g T.D_check_cell.F.kp T.D_check_cell.b (fun σ => passAt (takes_of rfl rfl rfl rfl) σ) (pa_cons (pv 0) (pa_cons (pv 1) (pa_cons (pv 2) (pa_cons (pv 3) pa_nil))))))
    (pss_one (ps_ret (pe_not (pe_ix (ix_seqK (K := K) rfl) (pe_ix (ix_seqK (K := K) rfl) (pe_ix (ix_seqK (K := K) rfl) (pe_meth (pe_make0 T.k_Cells.m G_Cells___init__ (hr.mono (by decide)) (by rfl) T.k_Cells.g T.D_Cells___init__.b .nil pass0) T.k_Cells.o.cl T.mt_Cells_grids_to G_Cells_grids_to (hr.mono (by decide)) T.D_Cells_grids_to.b .nil pass0 (pa_cons (pv 0) (pa_cons (pv 1) pa_nil))) (pv 1) (fun _ _ => rfl)) (pv 2) (fun _ _ => rfl)) (pv 3) (fun _ _ => rfl)))))), ?_⟩
  try dsimp only [cxOf, Cx.blk, Cx.nox, Cx.wish]
  (refine body_ofX h fun W ds P X eK f => ?_); subst eK
  obtain ⟨gs, sts, F, r, a, i, j, rfl, hS, ja, ji, jj, hX, hY, hP⟩ := f
  unfold scF
  walk_at "pd"
  refine ⟨_, _, r, a, i, j, rfl, ja, ji, jj, hX, hY, fun q1 q2 => ?_⟩
  have hP2 := hP q1 q2
  obtain ⟨x, rfl, hx⟩ : ∃ x : Nat, a = .int (x : Int) ∧ x < r.length := by
    unfold isIx at q1
    simp only [Bool.and_eq_true, decide_eq_true_eq] at q1
    obtain ⟨⟨q1, q2⟩, q3⟩ := q1
    obtain ⟨v, rfl⟩ := isInt_of q1
    obtain ⟨x, rfl⟩ := Int.eq_ofNat_of_zero_le (show 0 ≤ v from q2)
    exact ⟨x, rfl, by have : (x : Int) < r.length := q3; omega⟩
  have hF : x < F.length := by rw [hS.len, ← hS.lr]; exact hx
  obtain ⟨m, n, es, d, _⟩ := hS.dim x _ _ (List.getElem?_eq_getElem hF) (List.getElem?_eq_getElem hx)
  have eF := List.getElem?_eq_getElem hF
  generalize F[x] = M at eF d
  have e1 : shAt r (D.int (x : Int)).toI = ((m : Int), (n : Int)) := by
    show r.getD (x : Int).toNat (0, 0) = _
    rw [Int.toNat_natCast, List.getD_eq_getElem?_getD, List.getElem?_eq_getElem hx, ← es]
    rfl
  rw [e1] at q2
  simp only [Bool.and_eq_true] at q2
  obtain ⟨i, rfl, hi⟩ := inI_of q2.1
  obtain ⟨j, rfl, hj⟩ := inI_of q2.2
  have iM : i < M.length := by rw [d.1]; omega
  have jM : j < (M.getD i []).length := by rw [d.row (by omega)]; omega
  walk_at "pd"
  refine ev_meth ?_
  refine ev_makeE ?_
  walk_at "pd"
  refine ⟨rfl, rfl, _, _, rfl, by decide, ?_⟩
  walk_at "pd"
  refine ⟨gs, sts, F, r, x, M, rfl, hS, eF, fun l hl => ?_⟩
  walk_at "pd"
  refine rd_ixL (j := x) (by omega) hl ?_
  walk_at "pd"
  refine rd_ixL (j := i) (by omega) (flD_at iM) ?_
  walk_at "pd"
  refine rd_ixL (j := j) (by omega) (rowB_at jM) ?_
  walk_at "pd"
  exact hP2 _
def F__check_place {K : PySem.W.Frag} {mg : Str → Option Value} (T : Txt K mg) : FX := fun ds P X => ∃ (n : Int) (m : Nat) (xs : List D) (i j : D), ds = [gd T.k_Grid.C n xs, i, j] ∧ Grd n m xs ∧ Jd K i ∧ Jd K j ∧ (inI i xs.length = true → inI j m = true → P .non) ∧ ((inI i xs.length && inI j m) = false → X (T.x_NoCell.C, []))
theorem len__check_place {K : PySem.W.Frag} {mg : Str → Option Value} (T : Txt K mg) : ∀ ds P X, (F__check_place T) ds P X → ds.length = 3 := by (intro ds P X h; first | exact h | (obtain ⟨_, rfl, _⟩ := h; rfl) | (obtain ⟨_, _, rfl, _⟩ := h; rfl) | (obtain ⟨_, _, _, rfl, _⟩ := h; rfl) | (obtain ⟨_, _, _, _, rfl, _⟩ := h; rfl) | (obtain ⟨_, _, _, _, _, rfl, _⟩ := h; rfl) | (obtain ⟨_, _, _, _, _, _, rfl, _⟩ := h; rfl) | (obtain ⟨_, _, _, _, _, _, _, rfl, _⟩ := h; rfl) | (obtain ⟨_, _, _, _, _, _, _, _, rfl, _⟩ := h; rfl) | (obtain ⟨_, _, _, _, _, _, _, _, _, rfl, _⟩ := h; rfl) | (obtain ⟨_, _, _, _, _, _, _, _, _, _, rfl, _⟩ := h; rfl) | (obtain ⟨_, _, _, _, _, _, _, _, _, _, _, rfl, _⟩ := h; rfl) | (obtain ⟨_, _, _, _, _, _, _, _, _, _, _, _, rfl, _⟩ := h; rfl) | (obtain ⟨_, _, _, _, _, _, _, _, _, _, _, _, _, rfl, _⟩ := h; rfl) | (obtain ⟨rfl, _⟩ := h; rfl))
theorem ok__check_place (T : Txt K mg) : FnOk Pg T.w0 K mg base (L2.CX Pg T.w0) 3 T.D__check_place.f T.D__check_place.d ["grid", "i", "j"] ((spX K (F__check_place T))) := by
  have G_GridError___init__ := ok_GridError___init__ (Pg := Pg) (base := base) T
  have G_is_index := ok_is_index (Pg := Pg) (base := base) T
  refine T.D__check_place.F.okX (k := 2) sc__check_place (spX_len (len__check_place T)) (fun cdv A outer s H vs Q E hr h => ?_)
  refine ⟨_, (pss_one (ps_if (PW.pt (pw_or (pt_not (pt_val (pe_call G_is_index (hr.mono (by decide)) (by rfl) T.D_is_index.g T.D_is_index.F.kp T.D_is_index.b .nil pass0 (pa_cons (pv 1) (pa_cons (pe_callB (call_lenK (K := K) rfl) (by rfl) T.n_len (by decide +kernel) (pa_cons (pe_fldK (K := K) rfl (pv 0) rfl) pa_nil)) pa_nil))))) (pw_or1 (pt_not (pt_val (pe_call G_is_index (hr.mono (by decide)) (by rfl) T.D_is_index.g T.D_is_index.F.kp T.D_is_index.b .nil pass0 (pa_cons (pv 2) (pa_cons (pe_callB (call_lenK (K := K) rfl) (by rfl) T.n_len (by decide +kernel) (pa_cons (pe_ix (ix_seqK (K := K) rfl) (pe_fldK (K := K) rfl (pv 0) rfl) pe_int (fun _ _ => rfl)) pa_nil)) pa_nil))))))))
      (pss_one (ps_raise rfl (takes_of rfl rfl rfl rfl) (pmk_oe0 T.x_NoCell.o T.x_NoCell.i T.ty_GridError___init__ G_GridError___init__ (hr.mono (by decide)) T.D_GridError___init__.b pass0 (by rfl) T.x_NoCell.g)))
      pss_nil)), ?_⟩
  try dsimp only [cxOf, Cx.blk, Cx.nox, Cx.wish]
  (refine body_ofX h fun W ds P X eK f => ?_); subst eK
  obtain ⟨n, m, xs, i, j, rfl, g, hi, hj, hP, hX⟩ := f
  obtain ⟨r0, h0, hr0, _⟩ := g.head
  walk_at "pd"
  (refine ev_fld ?_; refine ev_var rfl ?_; refine ⟨_, _, _, _, rfl, T.k_Grid.o.cl, T.na_Grid_rows, rfl, ?_⟩)
  walk_at "pd"
  refine ⟨i, _, rfl, jd_ty hi, ?_⟩
  walk_at "pd"
  refine ⟨fun q => ?_, fun q => ?_⟩
  · have q1 : inI i xs.length = true := by unfold inI; simpa only [Bool.not_eq_false'] using q
    rw [q1] at hX
    walk_at "pd"
    (refine ev_fld ?_; refine ev_var rfl ?_; refine ⟨_, _, _, _, rfl, T.k_Grid.o.cl, T.na_Grid_rows, rfl, ?_⟩)
    walk_at "pd"
    refine rd_ixT (j := 0) rfl h0 ?_
    walk_at "pd"
    refine ⟨j, _, rfl, jd_ty hj, ?_⟩
    rw [hr0]
    walk_at "pd"
    refine ⟨fun q => ?_, fun q => ?_⟩
    · have q2 : inI j m = false := by unfold inI; simpa only [Bool.not_eq_true'] using q
      exact sx_raise0 T.x_NoCell.o (hX (by rw [q2]; rfl))
    · have q2 : inI j m = true := by unfold inI; simpa only [Bool.not_eq_false'] using q
      walk_at "pd"
      exact hP q1 q2
  · have q1 : inI i xs.length = false := by unfold inI; simpa only [Bool.not_eq_true'] using q
    rw [q1] at hX
    refine ⟨fun _ => sx_raise0 T.x_NoCell.o (hX rfl), fun z => by cases z⟩
def F_retold {K : PySem.W.Frag} {mg : Str → Option Value} (T : Txt K mg) : FX := fun ds P X => ∃ (n : Int) (m : Nat) (xs : List D) (i j t : D), ds = [gd T.k_Grid.C n xs, i, j, t] ∧ Grd n m xs ∧ Jd K i ∧ Jd K j ∧ Jd K t ∧
  (∀ (a b : Nat) (cs : List D), i = .int a → j = .int b → xs[a]? = some (.tup cs) → b < cs.length → isCl n t = true → P (gd T.k_Grid.C n (xs.set a (.tup (cs.set b t))))) ∧ ((inI i xs.length && inI j m) = false → X (T.x_NoCell.C, [])) ∧ ((inI i xs.length && inI j m) = true → isCl n t = false → X (T.x_NoUnit.C, []))
theorem len_retold {K : PySem.W.Frag} {mg : Str → Option Value} (T : Txt K mg) : ∀ ds P X, (F_retold T) ds P X → ds.length = 4 := by (intro ds P X h; first | exact h | (obtain ⟨_, rfl, _⟩ := h; rfl) | (obtain ⟨_, _, rfl, _⟩ := h; rfl) | (obtain ⟨_, _, _, rfl, _⟩ := h; rfl) | (obtain ⟨_, _, _, _, rfl, _⟩ := h; rfl) | (obtain ⟨_, _, _, _, _, rfl, _⟩ := h; rfl) | (obtain ⟨_, _, _, _, _, _, rfl, _⟩ := h; rfl) | (obtain ⟨_, _, _, _, _, _, _, rfl, _⟩ := h; rfl) | (obtain ⟨_, _, _, _, _, _, _, _, rfl, _⟩ := h; rfl) | (obtain ⟨_, _, _, _, _, _, _, _, _, rfl, _⟩ := h; rfl) | (obtain ⟨_, _, _, _, _, _, _, _, _, _, rfl, _⟩ := h; rfl) | (obtain ⟨_, _, _, _, _, _, _, _, _, _, _, rfl, _⟩ := h; rfl) | (obtain ⟨_, _, _, _, _, _, _, _, _, _, _, _, rfl, _⟩ := h; rfl) | (obtain ⟨_, _, _, _, _, _, _, _, _, _, _, _, _, rfl, _⟩ := h; rfl) | (obtain ⟨rfl, _⟩ := h; rfl))
theorem ok_retold (T : Txt K mg) : FnOk Pg T.w0 K mg base (L2.CX Pg T.w0) 9 T.D_retold.f T.D_retold.d ["grid", "i", "j", "thing"] ((spX K (F_retold T))) := by
  have G_GridError___init__ := ok_GridError___init__ (Pg := Pg) (base := base) T
  have G_Grid___init__ := ok_Grid___init__ (Pg := Pg) (base := base) T
  have G__check_place := ok__check_place (Pg := Pg) (base := base) T
  have G_is_cell := ok_is_cell (Pg := Pg) (base := base) T
  refine T.D_retold.F.okX (k := 8) sc_retold (spX_len (len_retold T)) (fun cdv A outer s H vs Q E hr h => ?_)
  refine ⟨_, (pss_cons (ps_expr (pe_callS G__check_place (hr.mono (by decide)) (by rfl) T.D__check_place.g T.D__check_place.F.kp T.D__check_place.b (fun σ => passAt (takes_of rfl rfl rfl rfl) σ) (pa_cons (pv 0) (pa_cons (pv 1) (pa_cons (pv 2) pa_nil)))))
    (pss_cons (ps_if (pt_not (pt_val (pe_call G_is_cell (hr.mono (by decide)) (by rfl) T.D_is_cell.g T.D_is_cell.F.kp T.D_is_cell.b .nil pass0 (pa_cons (pe_fldK (K := K) rfl (pv 0) rfl) (pa_cons (pv 3) pa_nil)))))
      (pss_one (ps_raise rfl (takes_of rfl rfl rfl rfl) (pmk_oe0 T.x_NoUnit.o T.x_NoUnit.i T.ty_GridError___init__ G_GridError___init__ (hr.mono (by decide)) T.D_GridError___init__.b pass0 (by rfl) T.x_NoUnit.g)))
      pss_nil)
    (pss_cons (ps_setLc (i := 4) (own := [("row", 5)]) rfl sc_retold.nd rfl rfl (sw_true rfl rfl rfl (by decide +kernel)) (pi_seqK (K := K) rfl (pe_fldK (K := K) rfl (pv 0) rfl)) (blkOk_by (N := ["grid", "i", "j", "thing", "rows", "row"]) (sc := defScope s_retold) (by decide +kernel)) (fun _ _ _ _ _ => (pg_name (i := 5) sc_retold.nd rfl (by first | exact Or.inl rfl | exact Or.inr rfl))) (fun _ _ _ _ _ => pts_nil) (fun _ _ _ _ _ => (pe_callTy (call_list_ofK (K := K) rfl) (by rfl) T.n_list (by decide +kernel) (pa_cons (pv 5) pa_nil))))
    (pss_cons (ps_asg (pv 3) (pg_sub (pe_ix (ix_seqK (K := K) rfl) (pv 4) (pv 1) (fun _ _ => rfl)) (pv 2) set_list))
    (pss_one (ps_ret (pe_makeS T.k_Grid.m G_Grid___init__ (hr.mono (by decide)) (by rfl) T.k_Grid.g T.D_Grid___init__.b (fun σ => passAt (takes_of rfl rfl rfl rfl) σ) (pa_cons (pe_fldK (K := K) rfl (pv 0) rfl) (pa_cons (pe_callTy (call_tuple_ofK (K := K) rfl) (by rfl) T.n_tuple (by decide +kernel) (pa_cons (pe_lc (own := [("row", 5)]) rfl sc_retold.nd (pi_seqK (K := K) rfl (pv 4)) (blkOk_by (N := ["grid", "i", "j", "thing", "rows", "row"]) (sc := defScope s_retold) (by decide +kernel)) (fun _ _ _ _ _ => (pg_name (i := 5) sc_retold.nd rfl (by first | exact Or.inl rfl | exact Or.inr rfl))) (fun _ _ _ _ _ => pts_nil) (fun _ _ _ _ _ => (pe_callTy (call_tuple_ofK (K := K) rfl) (by rfl) T.n_tuple (by decide +kernel) (pa_cons (pv 5) pa_nil)))) pa_nil)) pa_nil))))))))), ?_⟩
  try dsimp only [cxOf, Cx.blk, Cx.nox, Cx.wish]
  (refine body_ofX h fun W ds P X eK f => ?_); subst eK
  obtain ⟨n, m, xs, i, j, t, rfl, g, hi, hj, ht, hP, hX, hU⟩ := f
  walk_at "pd"
  refine ⟨n, m, xs, i, j, rfl, g, hi, hj, fun q1 q2 => ?_, hX⟩
  rw [q1, q2] at hU
  walk_at "pd"
  (refine ev_fld ?_; refine ev_var rfl ?_; refine ⟨_, _, _, _, rfl, T.k_Grid.o.cl, T.na_Grid_bases, rfl, ?_⟩)
  walk_at "pd"
  refine ⟨n, t, rfl, g.n1, g.n3, ht, ?_⟩
  walk_at "pd"
  refine ⟨fun q => ?_, fun q => ?_⟩
  · refine sx_raise0 T.x_NoUnit.o (hU rfl (by simpa using q))
  · have q3 : isCl n t = true := by simpa using q
    obtain ⟨a, rfl, ha⟩ := inI_of q1
    obtain ⟨b, rfl, hb⟩ := inI_of q2
    obtain ⟨cs, e, hm, hc⟩ := g.at' (i := a) (by omega)
    have all : ∃ rows : List (List D), xs = rows.map .tup := ⟨xs.map items, by
      rw [List.map_map]
      refine (List.map_id xs).symm.trans (List.map_congr_left fun x hx => ?_)
      obtain ⟨ds, rfl, _⟩ := g.row x hx
      rfl⟩
    obtain ⟨rows, rfl⟩ := all
    have er : rows[a]? = some cs := by
      rw [List.getElem?_map] at e
      cases z : rows[a]? with
      | none => rw [z] at e; cases e
      | some ds => rw [z] at e; cases e; rfl
    refine sd_next ?_
    refine sx_nestSet (r := 4) (v := 5) (t := 3) (ri := 1) (rj := 2) ?_ ?_ (by decide) (by decide) (by decide) (it_seqT ?_)
    · show 5 < 6; decide
    · show 4 < 6; decide
    (refine ev_fld ?_; refine ev_var rfl ?_; refine ⟨_, _, _, _, rfl, T.k_Grid.o.cl, T.na_Grid_rows, rfl, ?_⟩)
    have l10 := g.l10
    rw [List.length_map] at l10
    refine ⟨_, rfl, rows, rfl, by omega, a, b, cs, t, er, by omega, rfl, rfl, rfl, cl_nref q3, fun ds hd => g.nrefs (List.mem_map.mpr ⟨ds, hd, rfl⟩), ?_⟩
    have g2 := g.set e q3 (j := b)
    have es : (rows.map D.tup).set a (.tup (cs.set b t)) = (rows.set a (cs.set b t)).map .tup := by rw [List.map_set]
    rw [es] at g2
    have hP2 := hP a b cs rfl rfl e (by omega) q3
    rw [es] at hP2
    refine sx_retMk ?_
    walk_at "pd"
    (refine ev_fld ?_; refine ev_var rfl ?_; refine ⟨_, _, _, _, rfl, T.k_Grid.o.cl, T.na_Grid_bases, rfl, ?_⟩)
    walk_at "pd"
    refine ev_lcL (it_seqL (ev_var rfl ⟨_, rfl, by rw [List.length_map, List.length_set]; omega, (rows.set a (cs.set b t)).map .tup, by rw [List.length_map, List.length_map], fun k d y hd hy => ?_, ?_⟩))
    · rw [List.getElem?_map] at hd hy
      cases z : (rows.set a (cs.set b t))[k]? with
      | none => rw [z] at hd; cases hd
      | some ds =>
        rw [z] at hd hy
        cases hd
        cases hy
        refine ⟨_, by simp, gd_name ?_⟩
        walk_at "pd"
        rfl
    · walk_at "pd"
      refine ⟨_, _, rfl, rfl, by simp only [Jd], ?_, fun _ => hP2, fun z => absurd g2.wrong z⟩
      have gg : Gd W.K (.tup ((rows.set a (cs.set b t)).map .tup)) := .tup (fun x hx => ?_) (by rw [List.length_map, List.length_set]; omega)
      · exact gg.j
      · obtain ⟨ds, rfl, hl, hc2⟩ := g2.row x hx
        exact .tup (fun y hy => cl_gd g.n3 (hc2 y hy)) (by have := g.m10; omega)
def F_retold_in {K : PySem.W.Frag} {mg : Str → Option Value} (T : Txt K mg) : FX := fun ds P X => ∃ (gs : List D) (st : D) (r : List Sh) (a i j t : D), ds = [scD T.k_Script.C (.tup gs) st r, a, i, j, t] ∧ 1 ≤ gs.length ∧ gs.length ≤ 6 ∧ st.nolst = true ∧ (∀ e ∈ gs, ∃ n m xs, e = gd T.k_Grid.C n xs ∧ Grd n m xs) ∧ Jd1 K a ∧ Jd K i ∧ Jd K j ∧ Jd K t ∧
  (∀ (x y z : Nat) (n : Int) (m : Nat) (xs cs : List D), a = .int x → i = .int y → j = .int z → gs[x]? = some (gd T.k_Grid.C n xs) → Grd n m xs → xs[y]? = some (.tup cs) → z < cs.length → isCl n t = true → P (scD T.k_Script.C (.tup (gs.set x (gd T.k_Grid.C n (xs.set y (.tup (cs.set z t)))))) st r)) ∧
  (isIx gs.length a = false → X (T.x_NoGrid.C, [])) ∧
  (∀ (x : Nat) (n : Int) (m : Nat) (xs : List D), a = .int x → gs[x]? = some (gd T.k_Grid.C n xs) → Grd n m xs → ((inI i xs.length && inI j m) = false → X (T.x_NoCell.C, [])) ∧ ((inI i xs.length && inI j m) = true → isCl n t = false → X (T.x_NoUnit.C, [])))
theorem len_retold_in {K : PySem.W.Frag} {mg : Str → Option Value} (T : Txt K mg) : ∀ ds P X, (F_retold_in T) ds P X → ds.length = 5 := by (intro ds P X h; first | exact h | (obtain ⟨_, rfl, _⟩ := h; rfl) | (obtain ⟨_, _, rfl, _⟩ := h; rfl) | (obtain ⟨_, _, _, rfl, _⟩ := h; rfl) | (obtain ⟨_, _, _, _, rfl, _⟩ := h; rfl) | (obtain ⟨_, _, _, _, _, rfl, _⟩ := h; rfl) | (obtain ⟨_, _, _, _, _, _, rfl, _⟩ := h; rfl) | (obtain ⟨_, _, _, _, _, _, _, rfl, _⟩ := h; rfl) | (obtain ⟨_, _, _, _, _, _, _, _, rfl, _⟩ := h; rfl) | (obtain ⟨_, _, _, _, _, _, _, _, _, rfl, _⟩ := h; rfl) | (obtain ⟨_, _, _, _, _, _, _, _, _, _, rfl, _⟩ := h; rfl) | (obtain ⟨_, _, _, _, _, _, _, _, _, _, _, rfl, _⟩ := h; rfl) | (obtain ⟨_, _, _, _, _, _, _, _, _, _, _, _, rfl, _⟩ := h; rfl) | (obtain ⟨_, _, _, _, _, _, _, _, _, _, _, _, _, rfl, _⟩ := h; rfl) | (obtain ⟨rfl, _⟩ := h; rfl))
theorem ok_retold_in (T : Txt K mg) : FnOk Pg T.w0 K mg base (L2.CX Pg T.w0) 10 T.D_retold_in.f T.D_retold_in.d ["script", "at", "i", "j", "thing"] ((spX K (F_retold_in T))) := by
  have G_GridError___init__ := ok_GridError___init__ (Pg := Pg) (base := base) T
  have G_fitting_script := ok_fitting_script (Pg := Pg) (base := base) T
  have G_is_index := ok_is_index (Pg := Pg) (base := base) T
  have G_retold := ok_retold (Pg := Pg) (base := base) T
  refine T.D_retold_in.F.okX (k := 9) sc_retold_in (spX_len (len_retold_in T)) (fun cdv A outer s H vs Q E hr h => ?_)
  refine ⟨_, (pss_cons (ps_if (pt_not (pt_val (pe_call G_is_index (hr.mono (by decide)) (by rfl) T.D_is_index.g T.D_is_index.F.kp T.D_is_index.b .nil pass0 (pa_cons (pv 1) (pa_cons (pe_callB (call_lenK (K := K) rfl) (by rfl) T.n_len (by decide +kernel) (pa_cons (pe_fldK (K := K) rfl (pv 0) rfl) pa_nil)) pa_nil)))))
      (pss_one (ps_raise rfl (takes_of rfl rfl rfl rfl) (pmk_oe0 T.x_NoGrid.o T.x_NoGrid.i T.ty_GridError___init__ G_GridError___init__ (hr.mono (by decide)) T.D_GridError___init__.b pass0 (by rfl) T.x_NoGrid.g)))
      pss_nil)
    (pss_cons (ps_set (i := 5) sc_retold_in.nd rfl (by first | exact Or.inl rfl | exact Or.inr rfl) (pe_callTy (call_list_ofK (K := K) rfl) (by rfl) T.n_list (by decide +kernel) (pa_cons (pe_fldK (K := K) rfl (pv 0) rfl) pa_nil)))
    (pss_cons (ps_asg (pe_callS G_retold (hr.mono (by decide)) (by rfl) T.D_retold.g T.D_retold.F.kp T.D_retold.b (fun σ => passAt (takes_of rfl rfl rfl rfl) σ) (pa_cons (pe_ix (ix_seqK (K := K) rfl) (pv 5) (pv 1) (fun _ _ => rfl)) (pa_cons (pv 2) (pa_cons (pv 3) (pa_cons (pv 4) pa_nil))))) (pg_sub (pv 5) (pv 1) set_list))
    (pss_one (ps_ret (pe_callS G_fitting_script (hr.mono (by decide)) (by rfl) T.D_fitting_script.g T.D_fitting_script.F.kp T.D_fitting_script.b (fun σ => passAt (takes_of rfl rfl rfl rfl) σ) (pa_cons (pe_callTy (call_tuple_ofK (K := K) rfl) (by rfl) T.n_tuple (by decide +kernel) (pa_cons (pv 5) pa_nil)) (pa_cons (pe_fldK (K := K) rfl (pv 0) rfl) (pa_cons (pe_fldK (K := K) rfl (pv 0) rfl) pa_nil))))))))), ?_⟩
  try dsimp only [cxOf, Cx.blk, Cx.nox, Cx.wish]
  refine body_ofXO h fun W ds P X eK f => ?_
  subst eK
  obtain ⟨gs, st, r, a, i, j, t, rfl, g1, g6, nst, hg, ja, ji, jj, jt, hP, hX, hY⟩ := f
  have nlg : ∀ e ∈ gs, e.nolst = true := fun e he => by
    obtain ⟨n, m, xs, rfl, g⟩ := hg e he
    exact gd_nolst g
  refine so_seq (so_if ?_)
  walk_at "pd"
  refine ev_fld ?_
  refine ev_var rfl ?_
  refine ⟨_, _, _, _, rfl, T.k_Script.o.cl, T.na_Script_grids, rfl, ?_⟩
  walk_at "pd"
  refine ⟨a, _, rfl, ja, ?_⟩
  change ∃ b, D.bl (isIx gs.length a) = D.bl b ∧ _
  refine ⟨_, rfl, fun q => ?_, fun q => ?_⟩
  · exact so_lift (sx_raise0 T.x_NoGrid.o (hX (by simpa using q)))
  have q : isIx gs.length a = true := by simpa using q
  have hx : ∃ x : Nat, a = .int (x : Int) ∧ x < gs.length := by
    unfold isIx at q
    simp only [Bool.and_eq_true, decide_eq_true_eq] at q
    obtain ⟨⟨q1, q2⟩, q3⟩ := q
    obtain ⟨v, rfl⟩ := isInt_of q1
    obtain ⟨x, rfl⟩ := Int.eq_ofNat_of_zero_le (show 0 ≤ v from q2)
    exact ⟨x, rfl, by have : (x : Int) < gs.length := q3; omega⟩
  obtain ⟨x, rfl, hx⟩ := hx
  have ex := List.getElem?_eq_getElem hx
  obtain ⟨n, m, xs, en, g⟩ := hg _ (List.getElem_mem hx)
  rw [en] at ex
  refine so_next ?_
  refine so_seq (so_asgF (ev_listF ?_))
  walk_at "pd"
  refine ev_fld ?_
  refine ev_var rfl ?_
  refine ⟨_, _, _, _, rfl, T.k_Script.o.cl, T.na_Script_grids, rfl, ?_⟩
  walk_at "pd"
  refine ⟨gs, .inl rfl, fun p fresh => ?_⟩
  refine so_seq (so_setX (i := 5) (j := x) (a := p) (ds := gs) rfl List.mem_cons_self (eal_put (a := p) 5 rfl List.mem_cons_self (eal_ev ?_)))
  walk_at "pd"
  refine rd_ixL (j := x) rfl ex ?_
  walk_at "pd"
  have hY := hY x n m xs rfl ex g
  refine ⟨n, m, xs, i, j, t, rfl, g, ji, jj, jt, fun y z cs e1 e2 e3 e4 e5 => ⟨?_, ?_⟩, fun q => ⟨rfl, hY.1 q⟩, fun q1 q2 => ⟨rfl, hY.2 q1 q2⟩⟩
  · exact gd_nolst (g.set e3 e5)
  walk_at "pd"
  refine ⟨rfl, fun es hes => ?_, ?_⟩
  · rcases List.mem_cons.mp hes with e | e
    · cases e; exact hx
    · cases e
  have hp : putO [(p, gs)] p (fun es => es.set x (gd T.k_Grid.C n (xs.set y (.tup (cs.set z t))))) = [(p, gs.set x (gd T.k_Grid.C n (xs.set y (.tup (cs.set z t)))))] := by simp [putO]
  rw [hp]
  have g0 : ∃ n' m' xs' gs', gs.set x (gd T.k_Grid.C n (xs.set y (.tup (cs.set z t)))) = gd T.k_Grid.C n' xs' :: gs' ∧ Grd n' m' xs' := by
    cases gs with
    | nil => simp at g1
    | cons e gs =>
      cases x with
      | zero => exact ⟨_, _, _, _, rfl, g.set e3 e5⟩
      | succ x =>
        obtain ⟨n, m, xs, rfl, g⟩ := hg e List.mem_cons_self
        exact ⟨n, m, xs, _, rfl, g⟩
  obtain ⟨n0, m0, xs0, gs0, eg, gg⟩ := g0
  have hP := hP x y z n m xs cs rfl e1 e2 ex g e3 e4 e5
  rw [eg] at hP ⊢
  have nl2 : ∀ e ∈ gd T.k_Grid.C n0 xs0 :: gs0, e.nolst = true := fun e he => by
    rw [← eg] at he
    rcases List.mem_or_eq_of_mem_set he with h | rfl
    · exact nlg e h
    · exact gd_nolst (g.set e3 e5)
  refine so_retX (eal_put (a := p) 5 rfl List.mem_cons_self (eal_ev ?_))
  walk_at "pd"
  refine ev_fld ?_
  refine ev_var rfl ?_
  refine ⟨_, _, _, _, rfl, T.k_Script.o.cl, T.na_Script_steps, rfl, ?_⟩
  walk_at "pd"
  refine ev_fld ?_
  refine ev_var rfl ?_
  refine ⟨_, _, _, _, rfl, T.k_Script.o.cl, T.na_Script_shapes, rfl, ?_⟩
  walk_at "pd"
  refine ⟨n0, m0, xs0, gs0, st, r, rfl, gg, ?_, hP⟩
  show (D.nolsts _ && (st.nolst && (D.nolsts (r.map shD) && true))) = true
  rw [nolsts_of nl2, nst, nolsts_of fun e he => by
    obtain ⟨p, _, rfl⟩ := List.mem_map.mp he
    rfl]
  rfl
def F_with_step {K : PySem.W.Frag} {mg : Str → Option Value} (T : Txt K mg) : FX := fun ds P X => ∃ (n : Int) (m : Nat) (xs gs sts : List D) (r : List Sh) (x : D), ds = [scD T.k_Script.C (.tup (gd T.k_Grid.C n xs :: gs)) (.tup sts) r, x] ∧ Grd n m xs ∧ sts.length ≤ 1000 ∧ r.length ≤ 1000 ∧ Jd K x ∧ x.len ≤ 1000 ∧
  (¬ sts.length < 16 → X (T.x_BadScript.C, [("part", .str "steps")])) ∧ (sts.length < 16 → madeD r x = none → X (T.x_BadScript.C, [("part", .int sts.length)])) ∧ (∀ p, sts.length < 16 → madeD r x = some p → P (scD T.k_Script.C (.tup (gd T.k_Grid.C n xs :: gs)) (.tup (sts ++ [x])) (r ++ [p])))
theorem len_with_step {K : PySem.W.Frag} {mg : Str → Option Value} (T : Txt K mg) : ∀ ds P X, (F_with_step T) ds P X → ds.length = 2 := by (intro ds P X h; first | exact h | (obtain ⟨_, rfl, _⟩ := h; rfl) | (obtain ⟨_, _, rfl, _⟩ := h; rfl) | (obtain ⟨_, _, _, rfl, _⟩ := h; rfl) | (obtain ⟨_, _, _, _, rfl, _⟩ := h; rfl) | (obtain ⟨_, _, _, _, _, rfl, _⟩ := h; rfl) | (obtain ⟨_, _, _, _, _, _, rfl, _⟩ := h; rfl) | (obtain ⟨_, _, _, _, _, _, _, rfl, _⟩ := h; rfl) | (obtain ⟨_, _, _, _, _, _, _, _, rfl, _⟩ := h; rfl) | (obtain ⟨_, _, _, _, _, _, _, _, _, rfl, _⟩ := h; rfl) | (obtain ⟨_, _, _, _, _, _, _, _, _, _, rfl, _⟩ := h; rfl) | (obtain ⟨_, _, _, _, _, _, _, _, _, _, _, rfl, _⟩ := h; rfl) | (obtain ⟨_, _, _, _, _, _, _, _, _, _, _, _, rfl, _⟩ := h; rfl) | (obtain ⟨_, _, _, _, _, _, _, _, _, _, _, _, _, rfl, _⟩ := h; rfl) | (obtain ⟨rfl, _⟩ := h; rfl))
theorem ok_with_step (T : Txt K mg) : FnOk Pg T.w0 K mg base (L2.CX Pg T.w0) 9 T.D_with_step.f T.D_with_step.d ["script", "step"] ((spX K (F_with_step T))) := by
  have G_BadScript___init__ := ok_BadScript___init__ (Pg := Pg) (base := base) T
  have G_fitting_script := ok_fitting_script (Pg := Pg) (base := base) T
  have G_made_shape := ok_made_shape (Pg := Pg) (base := base) T
  refine T.D_with_step.F.okX (k := 8) sc_with_step (spX_len (len_with_step T)) (fun cdv A outer s H vs Q E hr h => ?_)
  refine ⟨_, (pss_cons (ps_if (pt_cmpR op_ge (pe_callB (call_lenK (K := K) rfl) (by rfl) T.n_len (by decide +kernel) (pa_cons (pe_fldK (K := K) rfl (pv 0) rfl) pa_nil)) (pe_glob (v := .int 16) rfl T.c_MOST_STEPS ⟨_, rfl⟩) (nomark _))
      (pss_one (ps_raise rfl (takes_of rfl rfl rfl rfl) (pmk_oex T.x_BadScript.o T.x_BadScript.i T.ty_BadScript___init__ G_BadScript___init__ (hr.mono (by decide)) T.D_BadScript___init__.b .nil pass0 (by rfl) T.x_BadScript.g (pa_cons pe_str pa_nil))))
      pss_nil)
    (pss_cons (ps_set (i := 2) sc_with_step.nd rfl (by first | exact Or.inl rfl | exact Or.inr rfl) (pe_call G_made_shape (hr.mono (by decide)) (by rfl) T.D_made_shape.g T.D_made_shape.F.kp T.D_made_shape.b .nil pass0 (pa_cons (pe_fldK (K := K) rfl (pv 0) rfl) (pa_cons (pv 1) pa_nil))))
    (pss_cons (ps_if (pt_cmpR op_isN (pv 2) pe_non (nomark _))
      (pss_one (ps_raise rfl (takes_of rfl rfl rfl rfl) (pmk_oex T.x_BadScript.o T.x_BadScript.i T.ty_BadScript___init__ G_BadScript___init__ (hr.mono (by decide)) T.D_BadScript___init__.b .nil pass0 (by rfl) T.x_BadScript.g (pa_cons (pe_callB (call_lenK (K := K) rfl) (by rfl) T.n_len (by decide +kernel) (pa_cons (pe_fldK (K := K) rfl (pv 0) rfl) pa_nil)) pa_nil))))
      pss_nil)
    (pss_one (ps_ret (pe_callS G_fitting_script (hr.mono (by decide)) (by rfl) T.D_fitting_script.g T.D_fitting_script.F.kp T.D_fitting_script.b (fun σ => passAt (takes_of rfl rfl rfl rfl) σ) (pa_cons (pe_fldK (K := K) rfl (pv 0) rfl) (pa_cons (pe_op (op_plusK (K := K) rfl) (pe_fldK (K := K) rfl (pv 0) rfl) (pe_tup (pa_cons (pv 1) pa_nil))) (pa_cons (pe_op (op_plusK (K := K) rfl) (pe_fldK (K := K) rfl (pv 0) rfl) (pe_tup (pa_cons (pv 2) pa_nil))) pa_nil))))))))), ?_⟩
  try dsimp only [cxOf, Cx.blk, Cx.nox, Cx.wish]
  (refine body_ofX h fun W ds P X eK f => ?_); subst eK
  obtain ⟨n, m, xs, gs, sts, r, x, rfl, g, lst, lr, jx, lx, hX, hY, hP⟩ := f
  walk_at "pd"
  refine ev_fld ?_
  refine ev_var rfl ?_
  refine ⟨_, _, _, _, rfl, T.k_Script.o.cl, T.na_Script_steps, rfl, ?_⟩
  walk_at "pd"
  refine ⟨fun z => ?_, fun z => ?_⟩
  · have z : (16 : Int) ≤ sts.length := by simpa using z
    walk_at "pd"
    refine sx_raise1 T.x_BadScript.o T.nx_BadScript_part ?_
    walk_at "pd"
    exact ⟨_, rfl, hX (by omega)⟩
  have z : ¬ (16 : Int) ≤ sts.length := by simpa using z
  have l16 : sts.length < 16 := by omega
  walk_at "pd"
  refine ev_fld ?_
  refine ev_var rfl ?_
  refine ⟨_, _, _, _, rfl, T.k_Script.o.cl, T.na_Script_shapes, rfl, ?_⟩
  walk_at "pd"
  refine ⟨r, x, _, rfl, .inr rfl, lr, jx, lx, ?_⟩
  cases hm : madeD r x with
  | none =>
    unfold optSh
    walk_at "pd"
    refine sx_raise1 T.x_BadScript.o T.nx_BadScript_part ?_
    walk_at "pd"
    refine ev_fld ?_
    refine ev_var rfl ?_
    refine ⟨_, _, _, _, rfl, T.k_Script.o.cl, T.na_Script_steps, rfl, ?_⟩
    walk_at "pd"
    exact ⟨_, rfl, hY l16 hm⟩
  | some p =>
    unfold optSh shD
    walk_at "pd"
    refine ev_fld ?_
    refine ev_var rfl ?_
    refine ⟨_, _, _, _, rfl, T.k_Script.o.cl, T.na_Script_grids, rfl, ?_⟩
    walk_at "pd"
    refine ev_fld ?_
    refine ev_var rfl ?_
    refine ⟨_, _, _, _, rfl, T.k_Script.o.cl, T.na_Script_steps, rfl, ?_⟩
    walk_at "pd"
    refine rd_plusT (by show _ + 1 ≤ 100000; omega) ?_
    walk_at "pd"
    refine ev_fld ?_
    refine ev_var rfl ?_
    refine ⟨_, _, _, _, rfl, T.k_Script.o.cl, T.na_Script_shapes, rfl, ?_⟩
    walk_at "pd"
    refine rd_plusT (by rw [List.length_map]; show _ + 1 ≤ 100000; omega) ?_
    walk_at "pd"
    refine ⟨n, m, xs, gs, _, r ++ [p], ?_, g, hP p l16 hm⟩
    rw [List.map_append]
    rfl
/-- what is asked of a script, by its number -/
def CalledX {K : PySem.W.Frag} {mg : Str → Option Value} (T : Txt K mg) (w : Int) (sc : D) (told : List D) (P : D → Prop) (X : XV → Prop) : Prop :=
  (w = 0 ∧ ∃ a, told = [a] ∧ F_shape T [sc, a] P X) ∨ (w = 1 ∧ ∃ a i j, told = [a, i, j] ∧ F_is_nought T [sc, a, i, j] P X) ∨ (w = 2 ∧ ∃ a i j t, told = [a, i, j, t] ∧ F_retold_in T [sc, a, i, j, t] P X) ∨
  (w = 3 ∧ ∃ a, told = [a] ∧ F_with_step T [sc, a] P X) ∨ (w = 4 ∧ ∃ a, told = [a] ∧ F_renamed T [sc, a] P X)
def F__law_called {K : PySem.W.Frag} {mg : Str → Option Value} (T : Txt K mg) : FX := fun ds P X => ∃ (w : Int) (sc : D) (told : List D), ds = [.int w, sc, .tup told] ∧ CalledX T w sc told P X
theorem len__law_called {K : PySem.W.Frag} {mg : Str → Option Value} (T : Txt K mg) : ∀ ds P X, (F__law_called T) ds P X → ds.length = 3 := by (intro ds P X h; first | exact h | (obtain ⟨_, rfl, _⟩ := h; rfl) | (obtain ⟨_, _, rfl, _⟩ := h; rfl) | (obtain ⟨_, _, _, rfl, _⟩ := h; rfl) | (obtain ⟨_, _, _, _, rfl, _⟩ := h; rfl) | (obtain ⟨_, _, _, _, _, rfl, _⟩ := h; rfl) | (obtain ⟨_, _, _, _, _, _, rfl, _⟩ := h; rfl) | (obtain ⟨_, _, _, _, _, _, _, rfl, _⟩ := h; rfl) | (obtain ⟨_, _, _, _, _, _, _, _, rfl, _⟩ := h; rfl) | (obtain ⟨_, _, _, _, _, _, _, _, _, rfl, _⟩ := h; rfl) | (obtain ⟨_, _, _, _, _, _, _, _, _, _, rfl, _⟩ := h; rfl) | (obtain ⟨_, _, _, _, _, _, _, _, _, _, _, rfl, _⟩ := h; rfl) | (obtain ⟨_, _, _, _, _, _, _, _, _, _, _, _, rfl, _⟩ := h; rfl) | (obtain ⟨_, _, _, _, _, _, _, _, _, _, _, _, _, rfl, _⟩ := h; rfl) | (obtain ⟨rfl, _⟩ := h; rfl))
theorem ok__law_called (T : Txt K mg) : FnOk Pg T.w0 K mg base (L2.CX Pg T.w0) 11 T.D__law_called.f T.D__law_called.d ["which", "script", "told"] ((spX K (F__law_called T))) := by
  have G_is_nought := ok_is_nought (Pg := Pg) (base := base) T
  have G_renamed := ok_renamed (Pg := Pg) (base := base) T
  have G_retold_in := ok_retold_in (Pg := Pg) (base := base) T
  have G_shape := ok_shape (Pg := Pg) (base := base) T
  have G_with_step := ok_with_step (Pg := Pg) (base := base) T
  refine T.D__law_called.F.okX (k := 10) sc__law_called (spX_len (len__law_called T)) (fun cdv A outer s H vs Q E hr h => ?_)
  refine ⟨_, (pss_cons (ps_if (pt_cmpR (op_eqDK (K := K) rfl (hr_u hr)) (pv 0) pe_int (nomark _))
      (pss_one (ps_ret (pe_callS G_shape (hr.mono (by decide)) (by rfl) T.D_shape.g T.D_shape.F.kp T.D_shape.b (fun σ => passAt (takes_of rfl rfl rfl rfl) σ) (pa_cons (pv 1) (pa_cons (pe_ix (ix_seqK (K := K) rfl) (pv 2) pe_int (fun _ _ => rfl)) pa_nil)))))
      pss_nil)
    (pss_cons (ps_if (pt_cmpR (op_eqDK (K := K) rfl (hr_u hr)) (pv 0) pe_int (nomark _))
      (pss_one (ps_ret (pe_callS G_is_nought (hr.mono (by decide)) (by rfl) T.D_is_nought.g T.D_is_nought.F.kp T.D_is_nought.b (fun σ => passAt (takes_of rfl rfl rfl rfl) σ) (pa_cons (pv 1) (pa_cons (pe_ix (ix_seqK (K := K) rfl) (pv 2) pe_int (fun _ _ => rfl)) (pa_cons (pe_ix (ix_seqK (K := K) rfl) (pv 2) pe_int (fun _ _ => rfl)) (pa_cons (pe_ix (ix_seqK (K := K) rfl) (pv 2) pe_int (fun _ _ => rfl)) pa_nil)))))))
      pss_nil)
    (pss_cons (ps_if (pt_cmpR (op_eqDK (K := K) rfl (hr_u hr)) (pv 0) pe_int (nomark _))
      (pss_one (ps_ret (pe_callS G_retold_in (hr.mono (by decide)) (by rfl) T.D_retold_in.g T.D_retold_in.F.kp T.D_retold_in.b (fun σ => passAt (takes_of rfl rfl rfl rfl) σ) (pa_cons (pv 1) (pa_cons (pe_ix (ix_seqK (K := K) rfl) (pv 2) pe_int (fun _ _ => rfl)) (pa_cons (pe_ix (ix_seqK (K := K) rfl) (pv 2) pe_int (fun _ _ => rfl)) (pa_cons (pe_ix (ix_seqK (K := K) rfl) (pv 2) pe_int (fun _ _ => rfl)) (pa_cons (pe_ix (ix_seqK (K := K) rfl) (pv 2) pe_int (fun _ _ => rfl)) pa_nil))))))))
      pss_nil)
    (pss_cons (ps_if (pt_cmpR (op_eqDK (K := K) rfl (hr_u hr)) (pv 0) pe_int (nomark _))
      (pss_one (ps_ret (pe_callS G_with_step (hr.mono (by decide)) (by rfl) T.D_with_step.g T.D_with_step.F.kp T.D_with_step.b (fun σ => passAt (takes_of rfl rfl rfl rfl) σ) (pa_cons (pv 1) (pa_cons (pe_ix (ix_seqK (K := K) rfl) (pv 2) pe_int (fun _ _ => rfl)) pa_nil)))))
      pss_nil)
    (pss_one (ps_ret (pe_callS G_renamed (hr.mono (by decide)) (by rfl) T.D_renamed.g T.D_renamed.F.kp T.D_renamed.b (fun σ => passAt (takes_of rfl rfl rfl rfl) σ) (pa_cons (pv 1) (pa_cons (pe_ix (ix_seqK (K := K) rfl) (pv 2) pe_int (fun _ _ => rfl)) pa_nil))))))))), ?_⟩
  try dsimp only [cxOf, Cx.blk, Cx.nox, Cx.wish]
  (refine body_ofX h fun W ds P X eK f => ?_); subst eK
  obtain ⟨w, sc, told, rfl, f⟩ := f
  rcases f with ⟨rfl, a, rfl, f⟩ | ⟨rfl, a, i, j, rfl, f⟩ | ⟨rfl, a, i, j, t, rfl, f⟩ | ⟨rfl, a, rfl, f⟩ | ⟨rfl, a, rfl, f⟩
  · walk_at "pd"
    exact f
  · walk_at "pd"
    refine rd_ixT (j := 2) rfl rfl ?_
    walk_at "pd"
    exact f
  · walk_at "pd"
    refine rd_ixT (j := 2) rfl rfl ?_
    walk_at "pd"
    refine rd_ixT (j := 3) rfl rfl ?_
    walk_at "pd"
    exact f
  · walk_at "pd"
    exact f
  · walk_at "pd"
    exact f
def w1 (s : Str) : D := .tup [.str s]
/-- what is caught, and what is told of it -/
def FoundX {K : PySem.W.Frag} {mg : Str → Option Value} (T : Txt K mg) (P : D → Prop) (x : XV) : Prop :=
  (x = (T.x_NoGrid.C, []) ∧ P (w1 "grid")) ∨ (x = (T.x_NoCell.C, []) ∧ P (w1 "cell")) ∨ (x = (T.x_NoUnit.C, []) ∧ P (w1 "unit")) ∨ (x = (T.x_NoOrder.C, []) ∧ P (w1 "order")) ∨
  (∃ i : Int, x = (T.x_BadScript.C, [(("part" : Str), D.int i)]) ∧ i.natAbs.log2 < 1920 ∧ P (.tup [.str "script", .str (toString i)])) ∨ (∃ y : Str, x = (T.x_BadScript.C, [(("part" : Str), D.str y)]) ∧ (reprText y).length ≤ sizeLine ∧ P (.tup [.str "script", .str (reprText y)]))
def F__law_found {K : PySem.W.Frag} {mg : Str → Option Value} (T : Txt K mg) : FD := fun ds P => ∃ (w : Int) (sc : D) (told : List D), ds = [.int w, sc, .tup told] ∧ ∀ (P1 : D → Prop) (X1 : XV → Prop), (∀ d, P (w1 "none") → P1 d) → (∀ x, FoundX T P x → X1 x) → CalledX T w sc told P1 X1
theorem len__law_found {K : PySem.W.Frag} {mg : Str → Option Value} (T : Txt K mg) : ∀ ds P, (F__law_found T) ds P → ds.length = 3 := by (intro ds P h; first | exact h | (obtain ⟨_, rfl, _⟩ := h; rfl) | (obtain ⟨_, _, rfl, _⟩ := h; rfl) | (obtain ⟨_, _, _, rfl, _⟩ := h; rfl) | (obtain ⟨_, _, _, _, rfl, _⟩ := h; rfl) | (obtain ⟨_, _, _, _, _, rfl, _⟩ := h; rfl) | (obtain ⟨_, _, _, _, _, _, rfl, _⟩ := h; rfl) | (obtain ⟨_, _, _, _, _, _, _, rfl, _⟩ := h; rfl) | (obtain ⟨_, _, _, _, _, _, _, _, rfl, _⟩ := h; rfl) | (obtain ⟨_, _, _, _, _, _, _, _, _, rfl, _⟩ := h; rfl) | (obtain ⟨_, _, _, _, _, _, _, _, _, _, rfl, _⟩ := h; rfl) | (obtain ⟨_, _, _, _, _, _, _, _, _, _, _, rfl, _⟩ := h; rfl) | (obtain ⟨_, _, _, _, _, _, _, _, _, _, _, _, rfl, _⟩ := h; rfl) | (obtain ⟨_, _, _, _, _, _, _, _, _, _, _, _, _, rfl, _⟩ := h; rfl) | (obtain ⟨rfl, _⟩ := h; rfl))
theorem ok__law_found (T : Txt K mg) : FnOk Pg T.w0 K mg base CX0 12 T.D__law_found.f T.D__law_found.d ["which", "script", "told"] ((spD K (F__law_found T))) := by
  have G_BadScript___init__ := ok_BadScript___init__ (Pg := Pg) (base := base) T
  have G_GridError___init__ := ok_GridError___init__ (Pg := Pg) (base := base) T
  have G__law_called := ok__law_called (Pg := Pg) (base := base) T
  refine T.D__law_found.F.ok (k := 11) sc__law_found (spD_len (len__law_found T)) (fun cdv A outer s H vs Q E hr h => ?_)
  refine ⟨_, (pss_cons (ps_set (i := 3) sc__law_found.nd rfl (by first | exact Or.inl rfl | exact Or.inr rfl) (pe_tup (pa_cons pe_str pa_nil)))
    (pss_cons (ps_tryC rfl rfl sc__law_found.nd takes0 (fun Wy pn xe tk _ => (pss_one (ps_expr (pe_callS G__law_called (hr.mono (by decide)) (by rfl) T.D__law_called.g T.D__law_called.F.kp T.D__law_called.b (fun σ => passAt tk σ) (pa_cons (pv 0) (pa_cons (pv 1) (pa_cons (pv 2) pa_nil))))))) (.plain ⟨rfl, by decide, .inl T.x_NoGrid.g⟩ (fun a oe cls d pn hz hf => (pss_one (ps_set (i := 3) sc__law_found.nd rfl (by first | exact Or.inl rfl | exact Or.inr rfl) (pe_tup (pa_cons pe_str pa_nil))))) (.plain ⟨rfl, by decide, .inl T.x_NoCell.g⟩ (fun a oe cls d pn hz hf => (pss_one (ps_set (i := 3) sc__law_found.nd rfl (by first | exact Or.inl rfl | exact Or.inr rfl) (pe_tup (pa_cons pe_str pa_nil))))) (.plain ⟨rfl, by decide, .inl T.x_NoUnit.g⟩ (fun a oe cls d pn hz hf => (pss_one (ps_set (i := 3) sc__law_found.nd rfl (by first | exact Or.inl rfl | exact Or.inr rfl) (pe_tup (pa_cons pe_str pa_nil))))) (.plain ⟨rfl, by decide, .inl T.x_NoOrder.g⟩ (fun a oe cls d pn hz hf => (pss_one (ps_set (i := 3) sc__law_found.nd rfl (by first | exact Or.inl rfl | exact Or.inr rfl) (pe_tup (pa_cons pe_str pa_nil))))) (.named (i := 4) ⟨rfl, by decide, .inl T.x_BadScript.g⟩ rfl rfl (fun a oe cls d pn hz hf => (pss_one (ps_set (i := 3) sc__law_found.nd rfl (by first | exact Or.inl rfl | exact Or.inr rfl) (pe_tup (pa_cons pe_str (pa_cons (pe_callB cr_repr (by rfl) T.n_repr (by decide +kernel) (pa_cons (pe_xf T.xf_BadScript T.nx_BadScript_part hz hf (pv 4)) pa_nil)) pa_nil)))))) (.plain ⟨rfl, by decide, .inl T.x_GridError.g⟩ (fun a oe cls d pn hz hf => (pss_one (ps_set (i := 3) sc__law_found.nd rfl (by first | exact Or.inl rfl | exact Or.inr rfl) (pe_tup (pa_cons pe_str pa_nil))))) .done)))))))
    (pss_one (ps_ret (pv 3))))), ?_⟩
  try dsimp only [cxOf, Cx.blk, Cx.nox, Cx.wish]
  (refine body_of h fun W ds P eK f => ?_); subst eK
  obtain ⟨w, sc, told, rfl, f⟩ := f
  walk_at "pd"
  refine sx_tryC (tb := fun Wy => tDrop (tCallS (spX W.K (F__law_called T)) (WE Wy) (tCons (tVar 0) (tCons (tVar 1) (tCons (tVar 2) tNil))))) (Xb := fun e δ' => δ' = [some (.int w), some sc, some (.tup told), some (.tup [.str "none"]), none] ∧ FoundX T P e) (fun Wx => ?_) (fun e δ' he => ?_)
  · walk_at "pd"
    refine ⟨w, sc, told, rfl, ?_⟩
    refine f _ _ (fun d hd => ?_) (fun x hx => ⟨rfl, hx⟩)
    walk_at "pd"
    exact hd
  · obtain ⟨rfl, f⟩ := he
    rcases f with ⟨rfl, f⟩ | ⟨rfl, f⟩ | ⟨rfl, f⟩ | ⟨rfl, f⟩ | ⟨i, rfl, hz, f⟩ | ⟨y, rfl, hz, f⟩
    · refine ⟨_, T.em_NoGrid_NoGrid, fun _ a cls d => ?_, fun z => by cases z⟩
      walk_at "pd"
      exact f
    · refine ⟨_, T.em_NoCell_NoGrid, fun z => (by cases z), fun _ => ⟨_, T.em_NoCell_NoCell, fun _ a cls d => ?_, fun z => by cases z⟩⟩
      walk_at "pd"
      exact f
    · refine ⟨_, T.em_NoUnit_NoGrid, fun z => (by cases z), fun _ => ⟨_, T.em_NoUnit_NoCell, fun z => (by cases z), fun _ => ⟨_, T.em_NoUnit_NoUnit, fun _ a cls d => ?_, fun z => by cases z⟩⟩⟩
      walk_at "pd"
      exact f
    · refine ⟨_, T.em_NoOrder_NoGrid, fun z => (by cases z), fun _ => ⟨_, T.em_NoOrder_NoCell, fun z => (by cases z), fun _ => ⟨_, T.em_NoOrder_NoUnit, fun z => (by cases z), fun _ => ⟨_, T.em_NoOrder_NoOrder, fun _ a cls d => ?_, fun z => by cases z⟩⟩⟩⟩
      walk_at "pd"
      exact f
    · refine ⟨_, T.em_BadScript_NoGrid, fun z => (by cases z), fun _ => ⟨_, T.em_BadScript_NoCell, fun z => (by cases z), fun _ => ⟨_, T.em_BadScript_NoUnit, fun z => (by cases z), fun _ => ⟨_, T.em_BadScript_NoOrder, fun z => (by cases z), fun _ => ⟨_, T.em_BadScript_BadScript, fun _ => ⟨fun a dx => ?_, fun z => by cases z⟩, fun z => by cases z⟩⟩⟩⟩⟩
      walk_at "pd"
      refine ev_xf (ev_var rfl ⟨_, _, _, rfl, rfl, ?_⟩)
      dsimp only
      walk_at "pd"
      refine rc_reprI hz ?_
      walk_at "pd"
      exact f
    · refine ⟨_, T.em_BadScript_NoGrid, fun z => (by cases z), fun _ => ⟨_, T.em_BadScript_NoCell, fun z => (by cases z), fun _ => ⟨_, T.em_BadScript_NoUnit, fun z => (by cases z), fun _ => ⟨_, T.em_BadScript_NoOrder, fun z => (by cases z), fun _ => ⟨_, T.em_BadScript_BadScript, fun _ => ⟨fun a dx => ?_, fun z => by cases z⟩, fun z => by cases z⟩⟩⟩⟩⟩
      walk_at "pd"
      refine ev_xf (ev_var rfl ⟨_, _, _, rfl, rfl, ?_⟩)
      dsimp only
      walk_at "pd"
      refine rc_reprS hz ?_
      walk_at "pd"
      exact f
def F__law_is_fraction (K : PySem.W.Frag) : FD := fun ds P => ∃ x, ds = [x] ∧ Jd K x ∧ x.small = true ∧ P (.bl (isFr x))
theorem len__law_is_fraction (K : PySem.W.Frag) : ∀ ds P, (F__law_is_fraction K) ds P → ds.length = 1 := by (intro ds P h; first | exact h | (obtain ⟨_, rfl, _⟩ := h; rfl) | (obtain ⟨_, _, rfl, _⟩ := h; rfl) | (obtain ⟨_, _, _, rfl, _⟩ := h; rfl) | (obtain ⟨_, _, _, _, rfl, _⟩ := h; rfl) | (obtain ⟨_, _, _, _, _, rfl, _⟩ := h; rfl) | (obtain ⟨_, _, _, _, _, _, rfl, _⟩ := h; rfl) | (obtain ⟨_, _, _, _, _, _, _, rfl, _⟩ := h; rfl) | (obtain ⟨_, _, _, _, _, _, _, _, rfl, _⟩ := h; rfl) | (obtain ⟨_, _, _, _, _, _, _, _, _, rfl, _⟩ := h; rfl) | (obtain ⟨_, _, _, _, _, _, _, _, _, _, rfl, _⟩ := h; rfl) | (obtain ⟨_, _, _, _, _, _, _, _, _, _, _, rfl, _⟩ := h; rfl) | (obtain ⟨_, _, _, _, _, _, _, _, _, _, _, _, rfl, _⟩ := h; rfl) | (obtain ⟨_, _, _, _, _, _, _, _, _, _, _, _, _, rfl, _⟩ := h; rfl) | (obtain ⟨rfl, _⟩ := h; rfl))
theorem ok__law_is_fraction (T : Txt K mg) : FnOk Pg T.w0 K mg base CX0 2 T.D__law_is_fraction.f T.D__law_is_fraction.d ["thing"] ((spD K (F__law_is_fraction K))) := by
  have G__law_is_integer := ok__law_is_integer (Pg := Pg) (base := base) T
  have G__law_low := ok__law_low (Pg := Pg) (base := base) T
  refine T.D__law_is_fraction.F.ok (k := 1) sc__law_is_fraction (spD_len (len__law_is_fraction K)) (fun cdv A outer s H vs Q E hr h => ?_)
  refine ⟨_, (pss_cons (ps_if (PW.pt (pw_or (pt_not (pt_val (pe_callB (call_isiK' (K := K) rfl) (by rfl) T.n_isinstance (by decide +kernel) (pa_cons (pv 0) (pa_cons (pe_bltn (v := .ty "tuple") (u := .type "tuple") (by rfl) T.n_tuple (by decide +kernel) rfl) pa_nil))))) (pw_or1 (pt_cmpR (op_neDK (K := K) rfl (hr_u hr)) (pe_callB (call_lenK (K := K) rfl) (by rfl) T.n_len (by decide +kernel) (pa_cons (pv 0) pa_nil)) pe_int (nomark _)))))
      (pss_one (ps_ret pe_bl))
      pss_nil)
    (pss_cons (ps_if (PW.pt (pw_or (pt_not (pt_val (pe_call G__law_is_integer (hr.mono (by decide)) (by rfl) T.D__law_is_integer.g T.D__law_is_integer.F.kp T.D__law_is_integer.b .nil pass0 (pa_cons (pe_ix (ix_seqK (K := K) rfl) (pv 0) pe_int (fun _ _ => rfl)) pa_nil)))) (pw_or (pt_not (pt_val (pe_call G__law_is_integer (hr.mono (by decide)) (by rfl) T.D__law_is_integer.g T.D__law_is_integer.F.kp T.D__law_is_integer.b .nil pass0 (pa_cons (pe_ix (ix_seqK (K := K) rfl) (pv 0) pe_int (fun _ _ => rfl)) pa_nil)))) (pw_or1 (pt_cmpR op_lt (pe_ix (ix_seqK (K := K) rfl) (pv 0) pe_int (fun _ _ => rfl)) pe_int (nomark _))))))
      (pss_one (ps_ret pe_bl))
      pss_nil)
    (pss_one (ps_ret (pe_cmpR (op_eqDK (K := K) rfl (hr_u hr)) (pe_call G__law_low (hr.mono (by decide)) (by rfl) T.D__law_low.g T.D__law_low.F.kp T.D__law_low.b .nil pass0 (pa_cons (pe_ix (ix_seqK (K := K) rfl) (pv 0) pe_int (fun _ _ => rfl)) (pa_cons (pe_ix (ix_seqK (K := K) rfl) (pv 0) pe_int (fun _ _ => rfl)) pa_nil))) (pv 0) (nomark _)))))), ?_⟩
  try dsimp only [cxOf, Cx.blk, Cx.nox, Cx.wish]
  (refine body_of h fun W ds P eK f => ?_); subst eK
  obtain ⟨x, rfl, hx, hs, hP⟩ := f
  have ht := jd_ty hx
  walk_at "pd"
  by_cases hT : x.isTup = true
  · obtain ⟨xs, rfl⟩ : ∃ xs, x = .tup xs := by
      cases x <;> first | exact ⟨_, rfl⟩ | cases hT
    walk_at "pd"
    by_cases hl : xs.length = 2
    · refine bf (by simp [hl]) ?_
      match xs, hl with
      | [a, b], _ =>
        simp only [Jd, JdA] at hx
        simp only [D.small, D.smalls, Bool.and_eq_true] at hs
        have ha := jd_ty hx.1
        have hb := jd_ty hx.2.1
        walk_at "pd"
        refine ⟨_, rfl, ha, ?_⟩
        walk_at "pd"
        by_cases h1 : a.isInt = true
        · obtain ⟨i, rfl⟩ := isInt_of h1
          walk_at "pd"
          refine ⟨_, rfl, hb, ?_⟩
          walk_at "pd"
          by_cases h2 : b.isInt = true
          · obtain ⟨j, rfl⟩ := isInt_of h2
            walk_at "pd"
            refine ⟨fun h3 => ?_, fun h3 => ?_⟩
            · have h3' := of_decide_eq_true h3
              rw [isFr_low (by omega)] at hP
              walk_at "pd"
              exact hP
            · have h3' := of_decide_eq_false h3
              have hj : j.natAbs < 2 ^ 8000 := of_decide_eq_true hs.2.1
              walk_at "pd"
              refine ⟨i, j, rfl, by omega, hj, ?_⟩
              walk_at "pd"
              rw [isFr_ints (by omega)] at hP
              show P (.bl (decide (lowF i j = (i, j))))
              have e : decide (lowF i j = (i, j)) = decide (((Nat.gcd i.natAbs j.natAbs : Nat) : Int) = 1) := by
                refine decide_eq_decide.mpr ⟨fun z => ?_, fun z => ?_⟩
                · have h9 := (lowF_isF (a := i) (b := j) (by omega)).2
                  rw [z] at h9
                  unfold gcdI at h9
                  exact congrArg Nat.cast h9
                · exact lowF_self (p := (i, j)) ⟨by show 1 ≤ j; omega, Int.ofNat.inj (show Int.ofNat _ = Int.ofNat 1 from z)⟩
              rw [e]
              exact hP
          · have h2' : b.isInt = false := by simpa using h2
            rw [h2']
            simp only [isFr, h2', Bool.false_and, Bool.and_false] at hP
            walk_at "pd"
            exact hP
        · have h1' : a.isInt = false := by simpa using h1
          rw [h1']
          simp only [isFr, h1', Bool.false_and] at hP
          walk_at "pd"
          exact hP
    · refine bt (by simp; omega) ?_
      walk_at "pd"
      rw [isFr_no2 hl] at hP
      exact hP
  · have hT' : x.isTup = false := by simpa using hT
    rw [hT']
    walk_at "pd"
    have e : isFr x = false := by cases x <;> first | rfl | cases hT'
    rw [e] at hP
    exact hP
def F__law_is_unit (K : PySem.W.Frag) : FD := fun ds P => ∃ (n : Int) (x : D), ds = [.int n, x] ∧ Jd K x ∧ x.small = true ∧ x.len ≤ 1000 ∧ P (.bl (isUn n x))
theorem len__law_is_unit (K : PySem.W.Frag) : ∀ ds P, (F__law_is_unit K) ds P → ds.length = 2 := by (intro ds P h; first | exact h | (obtain ⟨_, rfl, _⟩ := h; rfl) | (obtain ⟨_, _, rfl, _⟩ := h; rfl) | (obtain ⟨_, _, _, rfl, _⟩ := h; rfl) | (obtain ⟨_, _, _, _, rfl, _⟩ := h; rfl) | (obtain ⟨_, _, _, _, _, rfl, _⟩ := h; rfl) | (obtain ⟨_, _, _, _, _, _, rfl, _⟩ := h; rfl) | (obtain ⟨_, _, _, _, _, _, _, rfl, _⟩ := h; rfl) | (obtain ⟨_, _, _, _, _, _, _, _, rfl, _⟩ := h; rfl) | (obtain ⟨_, _, _, _, _, _, _, _, _, rfl, _⟩ := h; rfl) | (obtain ⟨_, _, _, _, _, _, _, _, _, _, rfl, _⟩ := h; rfl) | (obtain ⟨_, _, _, _, _, _, _, _, _, _, _, rfl, _⟩ := h; rfl) | (obtain ⟨_, _, _, _, _, _, _, _, _, _, _, _, rfl, _⟩ := h; rfl) | (obtain ⟨_, _, _, _, _, _, _, _, _, _, _, _, _, rfl, _⟩ := h; rfl) | (obtain ⟨rfl, _⟩ := h; rfl))
theorem ok__law_is_unit (T : Txt K mg) : FnOk Pg T.w0 K mg base CX0 3 T.D__law_is_unit.f T.D__law_is_unit.d ["bases", "thing"] ((spD K (F__law_is_unit K))) := by
  have G__law_is_fraction := ok__law_is_fraction (Pg := Pg) (base := base) T
  refine T.D__law_is_unit.F.ok (k := 2) sc__law_is_unit (spD_len (len__law_is_unit K)) (fun cdv A outer s H vs Q E hr h => ?_)
  refine ⟨_, (pss_cons (ps_if (PW.pt (pw_or (pt_not (pt_val (pe_callB (call_isiK' (K := K) rfl) (by rfl) T.n_isinstance (by decide +kernel) (pa_cons (pv 1) (pa_cons (pe_bltn (v := .ty "tuple") (u := .type "tuple") (by rfl) T.n_tuple (by decide +kernel) rfl) pa_nil))))) (pw_or1 (pt_cmpR (op_neDK (K := K) rfl (hr_u hr)) (pe_callB (call_lenK (K := K) rfl) (by rfl) T.n_len (by decide +kernel) (pa_cons (pv 1) pa_nil)) (pv 0) (nomark _)))))
      (pss_one (ps_ret pe_bl))
      pss_nil)
    (pss_one (ps_ret (pe_callB (cr_allK (K := K) rfl rfl) (by rfl) T.n_all (by decide +kernel) (pa_cons (pe_lc (own := [("item", 2)]) rfl sc__law_is_unit.nd (pi_seqK (K := K) rfl (pv 1)) (blkOk_by (N := ["bases", "thing", "item"]) (sc := defScope s__law_is_unit) (by decide +kernel)) (fun _ _ _ _ _ => (pg_name (i := 2) sc__law_is_unit.nd rfl (by first | exact Or.inl rfl | exact Or.inr rfl))) (fun _ _ _ _ _ => pts_nil) (fun _ _ _ _ _ => (pe_call G__law_is_fraction (hr.mono (by decide)) (by rfl) T.D__law_is_fraction.g T.D__law_is_fraction.F.kp T.D__law_is_fraction.b .nil pass0 (pa_cons (pv 2) pa_nil)))) pa_nil))))), ?_⟩
  try dsimp only [cxOf, Cx.blk, Cx.nox, Cx.wish]
  (refine body_of h fun W ds P eK f => ?_); subst eK
  obtain ⟨n, x, rfl, hx, hs, hl, hP⟩ := f
  have ht := jd_ty hx
  walk_at "pd"
  by_cases hT : x.isTup = true
  · obtain ⟨xs, rfl⟩ : ∃ xs, x = .tup xs := by
      cases x <;> first | exact ⟨_, rfl⟩ | cases hT
    walk_at "pd"
    simp only [isUn] at hP
    simp only [Jd] at hx
    simp only [D.small] at hs
    have hl2 : (xs.length : Int) ≤ 1000 := hl
    refine ⟨fun h1 => ?_, fun h1 => ?_⟩
    · have h1' : ¬ (xs.length : Int) = n := by simpa using h1
      rw [decide_eq_false h1', Bool.false_and] at hP
      walk_at "pd"
      exact hP
    · have h1' : (xs.length : Int) = n := by simpa using h1
      rw [decide_eq_true h1', Bool.true_and] at hP
      walk_at "pd"
      refine ev_lcL (it_seqT (ev_var rfl ⟨xs, rfl, by omega, xs.map fun x => .bl (isFr x), by rw [List.length_map], fun i d y hd hy => ?_, ?_⟩))
      · rw [List.getElem?_map, hd] at hy
        cases hy
        refine ⟨[2], by simp, gd_name ?_⟩
        walk_at "pd"
        exact ⟨d, rfl, jd_mem hx (List.mem_of_getElem? hd), smalls_mem hs (List.mem_of_getElem? hd), rfl⟩
      · walk_at "pd"
        have e : (xs.map fun x => D.bl (isFr x)) = (xs.map isFr).map D.bl := by rw [List.map_map]; rfl
        rw [e]
        refine rc_all ?_
        rw [List.all_map]
        exact hP
  · have hT' : x.isTup = false := by simpa using hT
    rw [hT']
    walk_at "pd"
    have e : isUn n x = false := by cases x <;> first | rfl | cases hT'
    rw [e] at hP
    exact hP
def F__law_is_cell (K : PySem.W.Frag) : FD := fun ds P => ∃ (n : Int) (x : D), ds = [.int n, x] ∧ n ≤ 3 ∧ Gd K x ∧ P (.bl (isCl n x))
theorem len__law_is_cell (K : PySem.W.Frag) : ∀ ds P, (F__law_is_cell K) ds P → ds.length = 2 := by (intro ds P h; first | exact h | (obtain ⟨_, rfl, _⟩ := h; rfl) | (obtain ⟨_, _, rfl, _⟩ := h; rfl) | (obtain ⟨_, _, _, rfl, _⟩ := h; rfl) | (obtain ⟨_, _, _, _, rfl, _⟩ := h; rfl) | (obtain ⟨_, _, _, _, _, rfl, _⟩ := h; rfl) | (obtain ⟨_, _, _, _, _, _, rfl, _⟩ := h; rfl) | (obtain ⟨_, _, _, _, _, _, _, rfl, _⟩ := h; rfl) | (obtain ⟨_, _, _, _, _, _, _, _, rfl, _⟩ := h; rfl) | (obtain ⟨_, _, _, _, _, _, _, _, _, rfl, _⟩ := h; rfl) | (obtain ⟨_, _, _, _, _, _, _, _, _, _, rfl, _⟩ := h; rfl) | (obtain ⟨_, _, _, _, _, _, _, _, _, _, _, rfl, _⟩ := h; rfl) | (obtain ⟨_, _, _, _, _, _, _, _, _, _, _, _, rfl, _⟩ := h; rfl) | (obtain ⟨_, _, _, _, _, _, _, _, _, _, _, _, _, rfl, _⟩ := h; rfl) | (obtain ⟨rfl, _⟩ := h; rfl))
theorem ok__law_is_cell (T : Txt K mg) : FnOk Pg T.w0 K mg base CX0 4 T.D__law_is_cell.f T.D__law_is_cell.d ["bases", "thing"] ((spD K (F__law_is_cell K))) := by
  have G__law_is_unit := ok__law_is_unit (Pg := Pg) (base := base) T
  refine T.D__law_is_cell.F.ok (k := 3) sc__law_is_cell (spD_len (len__law_is_cell K)) (fun cdv A outer s H vs Q E hr h => ?_)
  refine ⟨_, (pss_cons (ps_if (pt_cmpR op_isN (pv 1) pe_non (nomark _))
      (pss_one (ps_ret pe_bl))
      pss_nil)
    (pss_cons (ps_if (pt_not (pt_val (pe_call G__law_is_unit (hr.mono (by decide)) (by rfl) T.D__law_is_unit.g T.D__law_is_unit.F.kp T.D__law_is_unit.b .nil pass0 (pa_cons (pv 0) (pa_cons (pv 1) pa_nil)))))
      (pss_one (ps_ret pe_bl))
      pss_nil)
    (pss_one (ps_ret (pe_callB (cr_allK (K := K) rfl rfl) (by rfl) T.n_all (by decide +kernel) (pa_cons (pe_lc (own := [("exponent", 2)]) rfl sc__law_is_cell.nd (pi_seqK (K := K) rfl (pv 1)) (blkOk_by (N := ["bases", "thing", "exponent"]) (sc := defScope s__law_is_cell) (by decide +kernel)) (fun _ _ _ _ _ => (pg_name (i := 2) sc__law_is_cell.nd rfl (by first | exact Or.inl rfl | exact Or.inr rfl))) (fun _ _ _ _ _ => pts_nil) (fun _ _ _ _ _ => (pe_and (pe_cmpR op_le (pe_callB call_abs (by rfl) T.n_abs (by decide +kernel) (pa_cons (pe_ix (ix_seqK (K := K) rfl) (pv 2) pe_int (fun _ _ => rfl)) pa_nil)) pe_int (nomark _)) (pe_one (pe_cmpR op_le (pe_ix (ix_seqK (K := K) rfl) (pv 2) pe_int (fun _ _ => rfl)) pe_int (nomark _)))))) pa_nil)))))), ?_⟩
  try dsimp only [cxOf, Cx.blk, Cx.nox, Cx.wish]
  (refine body_of h fun W ds P eK f => ?_); subst eK
  obtain ⟨n, x, rfl, h3, hx, hP⟩ := f
  walk_at "pd"
  refine ⟨fun hn => ?_, fun hn => ?_⟩
  · simp only [isCl, hn, Bool.true_or] at hP
    walk_at "pd"
    exact hP
  · simp only [isCl, hn, Bool.false_or] at hP
    walk_at "pd"
    refine ⟨n, x, rfl, hx.j, hx.small, hx.lenD, ?_⟩
    walk_at "pd"
    by_cases hu : isUn n x = true
    · obtain ⟨u, rfl, hl, hf⟩ := isUn_of hu
      rw [hu, Bool.true_and] at hP
      refine bf (by rw [hu]; rfl) ?_
      walk_at "pd"
      refine ev_lcL (it_seqT (ev_var rfl ⟨u.map fr, rfl, by rw [List.length_map]; omega, (u.map fr).map fun e => .bl (exOk e), by rw [List.length_map], fun i d y hd hy => ?_, ?_⟩))
      · rw [List.getElem?_map, hd] at hy
        cases hy
        obtain ⟨p, _, rfl⟩ := List.mem_map.mp (List.mem_of_getElem? hd)
        refine ⟨[2], by simp, gd_name ?_⟩
        walk_at "pd"
        have e : (decide (-6 ≤ p.1) && decide (p.1 ≤ 6)) = decide ((if p.1 < 0 then -p.1 else p.1) ≤ 6) := by
          rw [← Bool.decide_and]
          refine decide_eq_decide.mpr ?_
          split <;> omega
        refine ⟨fun q1 => ?_, fun q1 => ?_⟩
        · walk_at "pd"
          show D.bl _ = D.bl (decide (-6 ≤ p.1) && decide (p.1 ≤ 6) && decide (p.2 ≤ 4))
          rw [e, q1]
          rfl
        · show D.bl false = D.bl (decide (-6 ≤ p.1) && decide (p.1 ≤ 6) && decide (p.2 ≤ 4))
          rw [e, q1]
          rfl
      · walk_at "pd"
        have e : ((u.map fr).map fun e => D.bl (exOk e)) = ((u.map fr).map exOk).map D.bl := by simp only [List.map_map, Function.comp_def]
        rw [e]
        refine rc_all ?_
        rw [List.all_map]
        exact hP
    · have hu' : isUn n x = false := by simpa using hu
      rw [hu', Bool.false_and] at hP
      refine bt (by rw [hu']; rfl) ?_
      walk_at "pd"
      exact hP
theorem isOrd_no {n : Nat} {xs : List D} (h : xs.length ≠ n ∨ ¬ xs.all (fun y => inI y n) = true) : isOrd n (.tup xs) = false := by
  cases z : isOrd n (.tup xs) with
  | false => rfl
  | true =>
    exfalso
    obtain ⟨l, e, p⟩ := isOrd_of z
    cases e
    rcases h with h | h
    · rw [List.length_map, p.length_eq, rgI_len] at h
      exact h rfl
    · refine h (List.all_eq_true.mpr fun y hy => ?_)
      obtain ⟨i, hi, rfl⟩ := List.mem_map.mp hy
      have := rgI_mem.mp (p.mem_iff.mp hi)
      unfold inI
      simp only [Bool.and_eq_true, decide_eq_true_eq]
      exact ⟨⟨rfl, this.1⟩, this.2⟩
def F__law_is_order (K : PySem.W.Frag) : FD := fun ds P => ∃ (x : D) (n : Nat), ds = [x, .int (n : Int)] ∧ Jd K x ∧ x.len ≤ 60 ∧ n ≤ 1000 ∧ P (.bl (isOrd n x))
theorem len__law_is_order (K : PySem.W.Frag) : ∀ ds P, (F__law_is_order K) ds P → ds.length = 2 := by (intro ds P h; first | exact h | (obtain ⟨_, rfl, _⟩ := h; rfl) | (obtain ⟨_, _, rfl, _⟩ := h; rfl) | (obtain ⟨_, _, _, rfl, _⟩ := h; rfl) | (obtain ⟨_, _, _, _, rfl, _⟩ := h; rfl) | (obtain ⟨_, _, _, _, _, rfl, _⟩ := h; rfl) | (obtain ⟨_, _, _, _, _, _, rfl, _⟩ := h; rfl) | (obtain ⟨_, _, _, _, _, _, _, rfl, _⟩ := h; rfl) | (obtain ⟨_, _, _, _, _, _, _, _, rfl, _⟩ := h; rfl) | (obtain ⟨_, _, _, _, _, _, _, _, _, rfl, _⟩ := h; rfl) | (obtain ⟨_, _, _, _, _, _, _, _, _, _, rfl, _⟩ := h; rfl) | (obtain ⟨_, _, _, _, _, _, _, _, _, _, _, rfl, _⟩ := h; rfl) | (obtain ⟨_, _, _, _, _, _, _, _, _, _, _, _, rfl, _⟩ := h; rfl) | (obtain ⟨_, _, _, _, _, _, _, _, _, _, _, _, _, rfl, _⟩ := h; rfl) | (obtain ⟨rfl, _⟩ := h; rfl))
theorem ok__law_is_order (T : Txt K mg) : FnOk Pg T.w0 K mg base CX0 3 T.D__law_is_order.f T.D__law_is_order.d ["thing", "many"] ((spD K (F__law_is_order K))) := by
  have G__law_is_place := ok__law_is_place (Pg := Pg) (base := base) T
  refine T.D__law_is_order.F.ok (k := 2) sc__law_is_order (spD_len (len__law_is_order K)) (fun cdv A outer s H vs Q E hr h => ?_)
  refine ⟨_, (pss_cons (ps_if (PW.pt (pw_or (pt_not (pt_val (pe_callB (call_isiK' (K := K) rfl) (by rfl) T.n_isinstance (by decide +kernel) (pa_cons (pv 0) (pa_cons (pe_bltn (v := .ty "tuple") (u := .type "tuple") (by rfl) T.n_tuple (by decide +kernel) rfl) pa_nil))))) (pw_or (pt_cmpR (op_neDK (K := K) rfl (hr_u hr)) (pe_callB (call_lenK (K := K) rfl) (by rfl) T.n_len (by decide +kernel) (pa_cons (pv 0) pa_nil)) (pv 1) (nomark _)) (pw_or1 (pt_not (pt_val (pe_callB (cr_allK (K := K) rfl rfl) (by rfl) T.n_all (by decide +kernel) (pa_cons (pe_lc (own := [("item", 2)]) rfl sc__law_is_order.nd (pi_seqK (K := K) rfl (pv 0)) (blkOk_by (N := ["thing", "many", "item"]) (sc := defScope s__law_is_order) (by decide +kernel)) (fun _ _ _ _ _ => (pg_name (i := 2) sc__law_is_order.nd rfl (by first | exact Or.inl rfl | exact Or.inr rfl))) (fun _ _ _ _ _ => pts_nil) (fun _ _ _ _ _ => (pe_call G__law_is_place (hr.mono (by decide)) (by rfl) T.D__law_is_place.g T.D__law_is_place.F.kp T.D__law_is_place.b .nil pass0 (pa_cons (pv 2) (pa_cons (pv 1) pa_nil))))) pa_nil))))))))
      (pss_one (ps_ret pe_bl))
      pss_nil)
    (pss_one (ps_ret (pe_cmpR (op_eqDK (K := K) rfl (hr_u hr)) (pe_callB (cr_srtTK (K := K) rfl) (by rfl) T.n_sorted (by decide +kernel) (pa_cons (pv 0) pa_nil)) (pe_listRg rfl (by rfl) T.n_list (prg_1 (by rfl) T.n_range (pv 1))) (nomark _))))), ?_⟩
  try dsimp only [cxOf, Cx.blk, Cx.nox, Cx.wish]
  (refine body_of h fun W ds P eK f => ?_); subst eK
  obtain ⟨x, n, rfl, jx, lx, hn, hP⟩ := f
  walk_at "pd"
  refine rc_isiTJ (jd_ty jx) ?_
  refine ⟨_, rfl, fun z => ?_, fun z => ?_⟩
  rotate_left
  · have e : x.isTup = false := by simpa using z
    have e2 : isOrd n x = false := by cases x <;> first | rfl | cases e
    rw [e2] at hP
    walk_at "pd"
    exact hP
  have e : x.isTup = true := by simpa using z
  obtain ⟨xs, rfl⟩ := tup_of e
  have lx : (xs.length : Int) ≤ 60 := lx
  simp only [Jd] at jx
  walk_at "pd"
  refine ⟨fun z => ?_, fun z => ?_⟩
  rotate_left
  · have z : xs.length ≠ n := by
      intro e
      subst e
      simp at z
    rw [isOrd_no (.inl z)] at hP
    walk_at "pd"
    exact hP
  have ln : xs.length = n := by
    have := z
    simp at this
    omega
  walk_at "pd"
  refine ev_lcM xs (fun y => y) (fun y => .bl (inI y n)) (it_seqT (ev_var rfl ⟨_, rfl, by rw [List.map_id'], by omega, fun i y hy => ⟨_, by simp, gd_name ?_⟩, ?_⟩))
  · walk_at "pd"
    exact ⟨_, _, rfl, jd_ty (jd_mem jx (List.mem_of_getElem? hy)), rfl⟩
  have e1 : (xs.map fun y => D.bl (inI y n)) = (xs.map fun y => inI y n).map .bl := by rw [List.map_map]; rfl
  rw [e1]
  walk_at "pd"
  refine rc_all ?_
  have e2 : (xs.map fun y => inI y n).all id = xs.all fun y => inI y n := by
    rw [List.all_map]
    rfl
  rw [e2]
  cases ea : xs.all fun y => inI y n with
  | false =>
    rw [isOrd_no (.inr (by rw [ea]; decide))] at hP
    refine ⟨_, rfl, fun _ => ?_, fun z => (by cases z)⟩
    walk_at "pd"
    exact hP
  | true =>
    refine ⟨_, rfl, fun z => (by cases z), fun _ => ?_⟩
    have hi : xs.all (·.isInt) = true := List.all_eq_true.mpr fun y hy => by
      have := List.all_eq_true.mp ea y hy
      unfold inI at this
      simp only [Bool.and_eq_true] at this
      exact this.1.1
    rw [intsOf_all] at hi
    rw [isOrd_tup] at hP
    cases ei : intsOf xs with
    | none => rw [ei] at hi; cases hi
    | some l =>
      rw [ei] at hP
      have el := intsOf_some ei
      subst el
      rw [List.length_map] at lx
      walk_at "pd"
      refine rc_srtT (by omega) fun os p1 p2 => ?_
      refine ev_ofF (ev_lstRg ?_)
      walk_at "pd"
      refine ⟨n, rfl, by omega, rd_srt (δ := []) p1 p2 hP⟩
/-- a script that is right, its flags and shapes -/
structure Sc12 (CG : Addr) (n : Int) (gs : List (D × List (List D))) (sts : List (Str × List Int)) (F : List BM) (r : List Sh) : Prop where
  gok : GsOk n gs
  n1 : 1 ≤ n
  n3 : n ≤ 3
  sc : ScF CG gs sts F r
  s16 : sts.length ≤ 16
  lk : ∀ s ∈ sts, kindLen.lookup s.1 = some ((s.2.length : Int) + 1) ∧ (srcs s.1 s.2).all (okSrc r.length) = true
  put : ∀ (i : Nat) (x : D × List (List D)), gs[i]? = some x → r[i]? = some (shG (gridD CG x))
  okr : ∀ p ∈ r, okSh p
theorem rd_neSame {W : Wd} {d : D} {P : D → Prop} (h : d.fine = true) (hP : P (.bl false)) : RD W (rNeD W.K) d d P := by
  refine rd_neD h h ?_
  rw [D.eqv_self h]
  exact hP
theorem rd_eqSame {W : Wd} {d : D} {P : D → Prop} (h : d.fine = true) (hP : P (.bl true)) : RD W (rEqD W.K) d d P := by
  refine rd_eqD h h ?_
  rw [D.eqv_self h]
  exact hP
theorem fine_k : ∀ k : Nat, k ≤ 16 → (D.tup [.str "script", .str (toString (k : Int))]).fine = true ∧ (reprText "steps").length ≤ sizeLine := by decide +kernel
theorem fine_st : (D.tup [.str "script", .str (reprText "steps")]).fine = true := by decide +kernel
theorem w1_none : (w1 "none").fine = true := by decide +kernel
theorem w1_grid : (w1 "grid").fine = true := by decide +kernel
theorem w1_cell : (w1 "cell").fine = true := by decide +kernel
theorem w1_unit : (w1 "unit").fine = true := by decide +kernel
theorem w1_order : (w1 "order").fine = true := by decide +kernel
theorem shp12 {CG : Addr} {n : Int} {gs : List (D × List (List D))} {sts : List (Str × List Int)} {F : List BM} {r : List Sh} (H : Sc12 CG n gs sts F r) {x : Nat} {n' : Int} {m' : Nat} {xs : List D} (h : (gs.map (gridD CG))[x]? = some (gd CG n' xs)) (g : Grd n' m' xs) : n' = n ∧ shAt r (x : Int) = ((xs.length : Int), (m' : Int)) ∧ x < gs.length := by
  rw [List.getElem?_map] at h
  cases ex : gs[x]? with
  | none => rw [ex] at h; cases h
  | some y =>
    rw [ex] at h
    have h : gridD CG y = gd CG n' xs := Option.some.inj h
    have hp := H.put x y ex
    rw [h] at hp
    obtain ⟨cs, _, _, hh⟩ := g.head
    have e : shG (gd CG n' xs) = ((xs.length : Int), (m' : Int)) := by
      show ((xs.length : Int), (xs.headD .non).len) = _
      rw [hh]
    rw [e] at hp
    refine ⟨?_, ?_, (List.getElem?_eq_some_iff.mp ex).1⟩
    · obtain ⟨b, _⟩ := H.gok.all y (List.mem_of_getElem? ex)
      unfold gridD at h
      simp only [D.ins.injEq, List.cons.injEq, and_true, true_and] at h
      rw [b] at h
      simpa using h.1.symm
    · unfold shAt
      rw [Int.toNat_natCast, List.getD_eq_getElem?_getD, hp]
      rfl
theorem gA12 {CG : Addr} {n : Int} {gs : List (D × List (List D))} (h : GsOk n gs) : ∀ e ∈ gs.map (gridD CG), ∃ n m xs, e = gd CG n xs ∧ Grd n m xs := fun e he => by
  obtain ⟨x, hx, rfl⟩ := List.mem_map.mp he
  obtain ⟨e, w, g⟩ := h.all x hx
  exact ⟨n, w, x.2.map .tup, by unfold gridD; rw [e], g⟩
def F__law_are_refused {K : PySem.W.Frag} {mg : Str → Option Value} (T : Txt K mg) : FD := fun ds P => ∃ (n : Int) (gs : List (D × List (List D))) (sts : List (Str × List Int)) (F : List BM) (r : List Sh), ds = [.st, scF T.k_Script.C T.k_Grid.C gs sts r, .tup (gs.map (gridD T.k_Grid.C)), .tup (sts.map fun s => stD s.1 s.2), .lst (r.map shD)] ∧ Sc12 T.k_Grid.C n gs sts F r ∧ P (.bl true)
theorem len__law_are_refused {K : PySem.W.Frag} {mg : Str → Option Value} (T : Txt K mg) : ∀ ds P, (F__law_are_refused T) ds P → ds.length = 5 := by (intro ds P h; first | exact h | (obtain ⟨_, rfl, _⟩ := h; rfl) | (obtain ⟨_, _, rfl, _⟩ := h; rfl) | (obtain ⟨_, _, _, rfl, _⟩ := h; rfl) | (obtain ⟨_, _, _, _, rfl, _⟩ := h; rfl) | (obtain ⟨_, _, _, _, _, rfl, _⟩ := h; rfl) | (obtain ⟨_, _, _, _, _, _, rfl, _⟩ := h; rfl) | (obtain ⟨_, _, _, _, _, _, _, rfl, _⟩ := h; rfl) | (obtain ⟨_, _, _, _, _, _, _, _, rfl, _⟩ := h; rfl) | (obtain ⟨_, _, _, _, _, _, _, _, _, rfl, _⟩ := h; rfl) | (obtain ⟨_, _, _, _, _, _, _, _, _, _, rfl, _⟩ := h; rfl) | (obtain ⟨_, _, _, _, _, _, _, _, _, _, _, rfl, _⟩ := h; rfl) | (obtain ⟨_, _, _, _, _, _, _, _, _, _, _, _, rfl, _⟩ := h; rfl) | (obtain ⟨_, _, _, _, _, _, _, _, _, _, _, _, _, rfl, _⟩ := h; rfl) | (obtain ⟨rfl, _⟩ := h; rfl))
theorem ok__law_are_refused (T : Txt K mg) : FnOk Pg T.w0 K mg base CX0 13 T.D__law_are_refused.f T.D__law_are_refused.d ["state", "made", "grids", "steps", "shapes"] ((spD K (F__law_are_refused T))) := by
  have G__law_found := ok__law_found (Pg := Pg) (base := base) T
  have G__law_is_cell := ok__law_is_cell (Pg := Pg) (base := base) T
  have G__law_is_order := ok__law_is_order (Pg := Pg) (base := base) T
  have G__law_is_place := ok__law_is_place (Pg := Pg) (base := base) T
  have G__law_made := ok__law_made (Pg := Pg) (base := base) T
  have G__law_place := ok__law_place (Pg := Pg) (base := base) T
  have G__law_some_order := ok__law_some_order (Pg := Pg) (base := base) T
  have G__law_some_step := ok__law_some_step (Pg := Pg) (base := base) T
  have G__law_spot := ok__law_spot (Pg := Pg) (base := base) T
  have G__law_thing := ok__law_thing (Pg := Pg) (base := base) T
  refine T.D__law_are_refused.F.ok (k := 12) sc__law_are_refused (spD_len (len__law_are_refused T)) (fun cdv A outer s H vs Q E hr h => ?_)
  refine ⟨_, (pss_cons (ps_set (i := 5) sc__law_are_refused.nd rfl (by first | exact Or.inl rfl | exact Or.inr rfl) (pe_call G__law_place (hr.mono (by decide)) (by rfl) T.D__law_place.g T.D__law_place.F.kp T.D__law_place.b .nil pass0 (pa_cons (pv 0) (pa_cons (pe_callB (call_lenK (K := K) rfl) (by rfl) T.n_len (by decide +kernel) (pa_cons (pv 4) pa_nil)) pa_nil))))
    (pss_cons (ps_set (i := 6) sc__law_are_refused.nd rfl (by first | exact Or.inl rfl | exact Or.inr rfl) (pe_ifExp (pt_val (pe_call G__law_is_place (hr.mono (by decide)) (by rfl) T.D__law_is_place.g T.D__law_is_place.F.kp T.D__law_is_place.b .nil pass0 (pa_cons (pv 5) (pa_cons (pe_callB (call_lenK (K := K) rfl) (by rfl) T.n_len (by decide +kernel) (pa_cons (pv 4) pa_nil)) pa_nil)))) (pe_ix (ix_seqK (K := K) rfl) (pv 4) (pv 5) (fun _ _ => rfl)) (pe_tup (pa_cons pe_int (pa_cons pe_int pa_nil)))))
    (pss_cons (ps_set (i := 7) sc__law_are_refused.nd rfl (by first | exact Or.inl rfl | exact Or.inr rfl) (pe_call G__law_place (hr.mono (by decide)) (by rfl) T.D__law_place.g T.D__law_place.F.kp T.D__law_place.b .nil pass0 (pa_cons (pv 0) (pa_cons (pe_ix (ix_seqK (K := K) rfl) (pv 6) pe_int (fun _ _ => rfl)) pa_nil))))
    (pss_cons (ps_set (i := 8) sc__law_are_refused.nd rfl (by first | exact Or.inl rfl | exact Or.inr rfl) (pe_call G__law_place (hr.mono (by decide)) (by rfl) T.D__law_place.g T.D__law_place.F.kp T.D__law_place.b .nil pass0 (pa_cons (pv 0) (pa_cons (pe_ix (ix_seqK (K := K) rfl) (pv 6) pe_int (fun _ _ => rfl)) pa_nil))))
    (pss_cons (ps_set (i := 9) sc__law_are_refused.nd rfl (by first | exact Or.inl rfl | exact Or.inr rfl) (pe_call G__law_thing (hr.mono (by decide)) (by rfl) T.D__law_thing.g T.D__law_thing.F.kp T.D__law_thing.b .nil pass0 (pa_cons (pv 0) (pa_cons (pe_fldK (K := K) rfl (pe_ix (ix_seqK (K := K) rfl) (pv 2) pe_int (fun _ _ => rfl)) rfl) pa_nil))))
    (pss_cons (ps_if (pt_cmpR (op_neDK (K := K) rfl (hr_u hr)) (pe_call G__law_found (hr.mono (by decide)) (by rfl) T.D__law_found.g T.D__law_found.F.kp T.D__law_found.b .nil pass0 (pa_cons pe_int (pa_cons (pv 1) (pa_cons (pe_tup (pa_cons (pv 5) pa_nil)) pa_nil)))) (pe_ifExp (pt_val (pe_call G__law_is_place (hr.mono (by decide)) (by rfl) T.D__law_is_place.g T.D__law_is_place.F.kp T.D__law_is_place.b .nil pass0 (pa_cons (pv 5) (pa_cons (pe_callB (call_lenK (K := K) rfl) (by rfl) T.n_len (by decide +kernel) (pa_cons (pv 4) pa_nil)) pa_nil)))) (pe_tup (pa_cons pe_str pa_nil)) (pe_tup (pa_cons pe_str pa_nil))) (nomark _))
      (pss_one (ps_ret pe_bl))
      pss_nil)
    (pss_cons (ps_if (pt_cmpR (op_neDK (K := K) rfl (hr_u hr)) (pe_call G__law_found (hr.mono (by decide)) (by rfl) T.D__law_found.g T.D__law_found.F.kp T.D__law_found.b .nil pass0 (pa_cons pe_int (pa_cons (pv 1) (pa_cons (pe_tup (pa_cons (pv 5) (pa_cons (pv 7) (pa_cons (pv 8) pa_nil)))) pa_nil)))) (pe_call G__law_spot (hr.mono (by decide)) (by rfl) T.D__law_spot.g T.D__law_spot.F.kp T.D__law_spot.b .nil pass0 (pa_cons (pv 4) (pa_cons (pe_callB (call_lenK (K := K) rfl) (by rfl) T.n_len (by decide +kernel) (pa_cons (pv 4) pa_nil)) (pa_cons (pv 5) (pa_cons (pv 7) (pa_cons (pv 8) pa_nil)))))) (nomark _))
      (pss_one (ps_ret pe_bl))
      pss_nil)
    (pss_cons (ps_set (i := 10) sc__law_are_refused.nd rfl (by first | exact Or.inl rfl | exact Or.inr rfl) (pe_call G__law_spot (hr.mono (by decide)) (by rfl) T.D__law_spot.g T.D__law_spot.F.kp T.D__law_spot.b .nil pass0 (pa_cons (pv 4) (pa_cons (pe_callB (call_lenK (K := K) rfl) (by rfl) T.n_len (by decide +kernel) (pa_cons (pv 2) pa_nil)) (pa_cons (pv 5) (pa_cons (pv 7) (pa_cons (pv 8) pa_nil)))))))
    (pss_cons (ps_if (PW.pt (pw_and (pt_cmpR (op_eqDK (K := K) rfl (hr_u hr)) (pv 10) (pe_tup (pa_cons pe_str pa_nil)) (nomark _)) (pw_and1 (pt_not (pt_val (pe_call G__law_is_cell (hr.mono (by decide)) (by rfl) T.D__law_is_cell.g T.D__law_is_cell.F.kp T.D__law_is_cell.b .nil pass0 (pa_cons (pe_fldK (K := K) rfl (pe_ix (ix_seqK (K := K) rfl) (pv 2) pe_int (fun _ _ => rfl)) rfl) (pa_cons (pv 9) pa_nil))))))))
      (pss_one (ps_set (i := 10) sc__law_are_refused.nd rfl (by first | exact Or.inl rfl | exact Or.inr rfl) (pe_tup (pa_cons pe_str pa_nil))))
      pss_nil)
    (pss_cons (ps_if (pt_cmpR (op_neDK (K := K) rfl (hr_u hr)) (pe_call G__law_found (hr.mono (by decide)) (by rfl) T.D__law_found.g T.D__law_found.F.kp T.D__law_found.b .nil pass0 (pa_cons pe_int (pa_cons (pv 1) (pa_cons (pe_tup (pa_cons (pv 5) (pa_cons (pv 7) (pa_cons (pv 8) (pa_cons (pv 9) pa_nil))))) pa_nil)))) (pv 10) (nomark _))
      (pss_one (ps_ret pe_bl))
      pss_nil)
    (pss_cons (ps_set (i := 11) sc__law_are_refused.nd rfl (by first | exact Or.inl rfl | exact Or.inr rfl) (pe_call G__law_some_step (hr.mono (by decide)) (by rfl) T.D__law_some_step.g T.D__law_some_step.F.kp T.D__law_some_step.b .nil pass0 (pa_cons (pv 0) (pa_cons (pv 4) pa_nil))))
    (pss_cons (ps_set (i := 10) sc__law_are_refused.nd rfl (by first | exact Or.inl rfl | exact Or.inr rfl) (pe_ifExp (pt_cmpR op_notN (pe_call G__law_made (hr.mono (by decide)) (by rfl) T.D__law_made.g T.D__law_made.F.kp T.D__law_made.b .nil pass0 (pa_cons (pv 11) (pa_cons (pv 4) pa_nil))) pe_non (nomark _)) (pe_tup (pa_cons pe_str pa_nil)) (pe_tup (pa_cons pe_str (pa_cons (pe_callB cr_repr (by rfl) T.n_repr (by decide +kernel) (pa_cons (pe_callB (call_lenK (K := K) rfl) (by rfl) T.n_len (by decide +kernel) (pa_cons (pv 3) pa_nil)) pa_nil)) pa_nil)))))
    (pss_cons (ps_if (pt_cmpR (op_neDK (K := K) rfl (hr_u hr)) (pe_call G__law_found (hr.mono (by decide)) (by rfl) T.D__law_found.g T.D__law_found.F.kp T.D__law_found.b .nil pass0 (pa_cons pe_int (pa_cons (pv 1) (pa_cons (pe_tup (pa_cons (pv 11) pa_nil)) pa_nil)))) (pe_ifExp (pt_cmpR (op_eqDK (K := K) rfl (hr_u hr)) (pe_callB (call_lenK (K := K) rfl) (by rfl) T.n_len (by decide +kernel) (pa_cons (pv 3) pa_nil)) pe_int (nomark _)) (pe_tup (pa_cons pe_str (pa_cons (pe_callB cr_repr (by rfl) T.n_repr (by decide +kernel) (pa_cons pe_str pa_nil)) pa_nil))) (pv 10)) (nomark _))
      (pss_one (ps_ret pe_bl))
      pss_nil)
    (pss_cons (ps_set (i := 12) sc__law_are_refused.nd rfl (by first | exact Or.inl rfl | exact Or.inr rfl) (pe_call G__law_some_order (hr.mono (by decide)) (by rfl) T.D__law_some_order.g T.D__law_some_order.F.kp T.D__law_some_order.b .nil pass0 (pa_cons (pv 0) (pa_cons (pe_callB (call_lenK (K := K) rfl) (by rfl) T.n_len (by decide +kernel) (pa_cons (pv 2) pa_nil)) pa_nil))))
    (pss_one (ps_ret (pe_cmpR (op_eqDK (K := K) rfl (hr_u hr)) (pe_call G__law_found (hr.mono (by decide)) (by rfl) T.D__law_found.g T.D__law_found.F.kp T.D__law_found.b .nil pass0 (pa_cons pe_int (pa_cons (pv 1) (pa_cons (pe_tup (pa_cons (pv 12) pa_nil)) pa_nil)))) (pe_ifExp (pt_val (pe_call G__law_is_order (hr.mono (by decide)) (by rfl) T.D__law_is_order.g T.D__law_is_order.F.kp T.D__law_is_order.b .nil pass0 (pa_cons (pv 12) (pa_cons (pe_callB (call_lenK (K := K) rfl) (by rfl) T.n_len (by decide +kernel) (pa_cons (pv 2) pa_nil)) pa_nil)))) (pe_tup (pa_cons pe_str pa_nil)) (pe_tup (pa_cons pe_str pa_nil))) (nomark _)))))))))))))))))), ?_⟩
  try dsimp only [cxOf, Cx.blk, Cx.nox, Cx.wish]
  (refine body_of h fun W ds P eK f => ?_); subst eK
  obtain ⟨n, gs, sts, F, r, rfl, H12, hP⟩ := f
  have one := H12.sc.one
  have few := H12.sc.few
  have g6 := H12.gok.few
  have s16 := H12.s16
  have lr := H12.sc.lr
  have lrm : (r.map shD).length = r.length := List.length_map _
  have lgm : (gs.map (gridD T.k_Grid.C)).length = gs.length := List.length_map _
  have lsm : (sts.map fun s => stD s.1 s.2).length = sts.length := List.length_map _
  have oG := T.k_Grid.o
  obtain ⟨x0, ex0⟩ : ∃ x0, gs[0]? = some x0 := ⟨_, List.getElem?_eq_getElem (by omega)⟩
  obtain ⟨b0, w0, g0⟩ := H12.gok.all x0 (List.mem_of_getElem? ex0)
  have ex0D : (gs.map (gridD T.k_Grid.C))[0]? = some (gridD T.k_Grid.C x0) := by rw [List.getElem?_map, ex0]; rfl
  walk_at "pd"
  rw [lrm]
  refine ⟨_, rfl, by omega, by omega, fun at' ga => ?_⟩
  refine sd_cut (fun δ => ∃ sh : Sh, okSh sh ∧ δ = [some .st, some (scF T.k_Script.C T.k_Grid.C gs sts r), some (.tup (gs.map (gridD T.k_Grid.C))), some (.tup (sts.map fun s => stD s.1 s.2)), some (.lst (r.map shD)), some at', some (shD sh), none, none, none, none, none, none]) ?_ fun δ hδ => ?_
  · walk_at "pd"
    rw [lrm]
    refine ⟨_, _, rfl, ga.ty, ?_⟩
    refine ⟨_, rfl, fun z => ?_, fun z => ?_⟩
    · obtain ⟨x, rfl, hx⟩ := inI_of z
      have ex : (r.map shD)[x]? = some (shD r[x]) := by rw [List.getElem?_map, List.getElem?_eq_getElem (by omega)]; rfl
      walk_at "pd"
      refine rd_ixL (j := x) (by omega) ex ?_
      exact ⟨_, H12.okr _ (List.getElem_mem _), rfl⟩
    · walk_at "pd"
      exact ⟨(2, 2), by unfold okSh; decide, rfl⟩
  obtain ⟨⟨s1, s2⟩, ⟨h1, h2, h3, h4⟩, rfl⟩ := hδ
  simp only at h1 h2 h3 h4
  rw [show shD (s1, s2) = D.tup [.int s1, .int s2] from rfl]
  walk_at "pd"
  refine ⟨_, rfl, by omega, by omega, fun i gi => ?_⟩
  walk_at "pd"
  refine ⟨_, rfl, by omega, by omega, fun j gj => ?_⟩
  walk_at "pd"
  refine ev_fld ?_
  refine ev_op ?_
  walk_at "pd"
  refine rd_ixT (j := 0) rfl ex0D ?_
  refine ⟨_, _, _, _, rfl, T.k_Grid.o.cl, T.na_Grid_bases, rfl, ?_⟩
  rw [b0]
  walk_at "pd"
  refine ⟨n, rfl, H12.n1, H12.n3, fun t gt => ?_⟩
  (simp only [List.set_cons_succ, List.set_cons_zero, List.replicate_succ, List.replicate_zero, List.length_cons, List.length_nil])
  -- shape
  refine sd_seq (sd_if (et_mid (fun b => b = false) ?_ fun bb hb => ⟨fun z => (by rw [hb] at z; cases z), fun _ => sd_next ?_⟩))
  · walk_at "pd"
    refine ⟨0, _, [at'], rfl, fun P1 X1 c1 c2 => .inl ⟨rfl, at', rfl, _, _, at', r, rfl, ga.ty, fun q => c1 _ ?_, fun q => c2 _ (.inl ⟨rfl, ?_⟩)⟩⟩
    · have q' : inI at' r.length = true := q
      walk_at "pd"
      rw [lrm]
      refine ⟨_, _, rfl, ga.ty, ?_⟩
      rw [q']
      refine ⟨_, rfl, fun _ => ?_, fun z => (by cases z)⟩
      walk_at "pd"
      exact rd_neSame w1_none ⟨_, rfl, rfl⟩
    · have q' : inI at' r.length = false := q
      walk_at "pd"
      rw [lrm]
      refine ⟨_, _, rfl, ga.ty, ?_⟩
      rw [q']
      refine ⟨_, rfl, fun z => (by cases z), fun _ => ?_⟩
      walk_at "pd"
      exact rd_neSame w1_grid ⟨_, rfl, rfl⟩
  -- is_nought
  refine sd_seq (sd_if (et_mid (fun b => b = false) ?_ fun bb hb => ⟨fun z => (by rw [hb] at z; cases z), fun _ => sd_next ?_⟩))
  · walk_at "pd"
    refine ⟨1, _, [at', i, j], rfl, fun P1 X1 c1 c2 => .inr (.inl ⟨rfl, at', i, j, rfl, gs, sts, F, r, at', i, j, rfl, H12.sc, ga.ty, gi.ty, gj.ty, fun q => c2 _ (.inl ⟨rfl, ?_⟩), fun q q2 => c2 _ (.inr (.inl ⟨rfl, ?_⟩)), fun q q2 _ => c1 _ ?_⟩)⟩
    · have e : spotW r r.length at' i j = "grid" := by
        unfold spotW
        rw [show inI at' r.length = false from q]
        rfl
      walk_at "pd"
      rw [lrm]
      refine ⟨r, r.length, at', i, j, rfl, Nat.le_refl _, ga.ty, gi.ty, gj.ty, ?_⟩
      rw [e]
      exact rd_neSame w1_grid ⟨_, rfl, rfl⟩
    · have e : spotW r r.length at' i j = "cell" := by
        unfold spotW
        rw [show inI at' r.length = true from q, q2]
        rfl
      walk_at "pd"
      rw [lrm]
      refine ⟨r, r.length, at', i, j, rfl, Nat.le_refl _, ga.ty, gi.ty, gj.ty, ?_⟩
      rw [e]
      exact rd_neSame w1_cell ⟨_, rfl, rfl⟩
    · have e : spotW r r.length at' i j = "none" := by
        unfold spotW
        rw [show inI at' r.length = true from q, q2]
        rfl
      walk_at "pd"
      rw [lrm]
      refine ⟨r, r.length, at', i, j, rfl, Nat.le_refl _, ga.ty, gi.ty, gj.ty, ?_⟩
      rw [e]
      exact rd_neSame w1_none ⟨_, rfl, rfl⟩
  -- retold_in
  walk_at "pd"
  rw [lgm]
  refine ⟨r, gs.length, at', i, j, rfl, by omega, ga.ty, gi.ty, gj.ty, ?_⟩
  (simp only [List.set_cons_succ, List.set_cons_zero, List.replicate_succ, List.replicate_zero, List.length_cons, List.length_nil])
  have sw : spotW r gs.length at' i j = if inI at' gs.length then (if inI i (shAt r at'.toI).1 && inI j (shAt r at'.toI).2 then ("none" : Str) else "cell") else "grid" := rfl
  generalize hs : spotW r gs.length at' i j = S at sw
  have s3 : S = "none" ∨ S = "cell" ∨ S = "grid" := by
    rw [sw]
    split
    · split
      · exact .inl rfl
      · exact .inr (.inl rfl)
    · exact .inr (.inr rfl)
  refine sd_cut (fun δ => δ = [some .st, some (scF T.k_Script.C T.k_Grid.C gs sts r), some (.tup (gs.map (gridD T.k_Grid.C))), some (.tup (sts.map fun s => stD s.1 s.2)), some (.lst (r.map shD)), some at', some (.tup [.int s1, .int s2]), some i, some j, some t, some (w1 (if S = "none" ∧ isCl n t = false then "unit" else S)), none, none]) ?_ fun δ hδ => ?_
  · walk_at "pd"
    have yes : S = "none" → D.eqv (.tup [.str S]) (.tup [.str "none"]) = true := fun e => by subst e; decide +kernel
    have no : S ≠ "none" → D.eqv (.tup [.str S]) (.tup [.str "none"]) = false := fun e => by
      rcases s3 with h | h | h
      · exact absurd h e
      · subst h; decide +kernel
      · subst h; decide +kernel
    have fi : (w1 S).fine = true := by
      rcases s3 with h | h | h <;> subst h
      · exact w1_none
      · exact w1_cell
      · exact w1_grid
    refine rd_eqD fi w1_none ?_
    refine ⟨_, rfl, fun z => ?_, fun z => ?_⟩
    · have e : S = "none" := Classical.byContradiction fun h => by rw [no h] at z; cases z
      subst e
      walk_at "pd"
      refine ev_fld ?_
      refine ev_op ?_
      walk_at "pd"
      refine rd_ixT (j := 0) rfl ex0D ?_
      refine ⟨_, _, _, _, rfl, T.k_Grid.o.cl, T.na_Grid_bases, rfl, ?_⟩
      rw [b0]
      walk_at "pd"
      refine ⟨n, t, rfl, H12.n3, gt, ?_⟩
      refine ⟨_, rfl, fun z => ?_, fun z => ?_⟩
      · have z : isCl n t = false := by simpa using z
        walk_at "pd"
        rw [if_pos ⟨rfl, z⟩]
        rfl
      · have z : isCl n t = true := by simpa using z
        walk_at "pd"
        rw [if_neg (fun h => by rw [z] at h; cases h.2)]
        rfl
    · have e : S ≠ "none" := fun h => by rw [yes h] at z; cases z
      walk_at "pd"
      rw [if_neg (fun h => e h.1)]
      rfl
  subst hδ
  have stl : D.nolst (.tup (sts.map fun s => stD s.1 s.2)) = true := nolsts_of fun e he => by
    obtain ⟨s, _, rfl⟩ := List.mem_map.mp he
    refine nolsts_of fun z hz => ?_
    rcases List.mem_cons.mp hz with rfl | hz
    · rfl
    · obtain ⟨i, _, rfl⟩ := List.mem_map.mp hz
      rfl
  refine sd_seq (sd_if (et_mid (fun b => b = false) ?_ fun bb hb => ⟨fun z => (by rw [hb] at z; cases z), fun _ => sd_next ?_⟩))
  · walk_at "pd"
    refine ⟨2, _, [at', i, j, t], rfl, fun P1 X1 c1 c2 => .inr (.inr (.inl ⟨rfl, at', i, j, t, rfl, gs.map (gridD T.k_Grid.C), _, r, at', i, j, t, rfl, by rw [lgm]; omega, by rw [lgm]; omega, stl, gA12 H12.gok, ga.ty, gi.j, gj.j, gt.j, fun x y z n' m' xs cs e1 e2 e3 e4 g e5 e6 e7 => c1 _ ?_, fun q => c2 _ (.inl ⟨rfl, ?_⟩), fun x n' m' xs e1 e2 g => ⟨fun q => c2 _ (.inr (.inl ⟨rfl, ?_⟩)), fun q q2 => c2 _ (.inr (.inr (.inl ⟨rfl, ?_⟩)))⟩⟩))⟩
    · obtain ⟨en, es, hx⟩ := shp12 H12 e4 g
      obtain ⟨cs2, h5, h6, _⟩ := g.row _ (List.mem_of_getElem? e5)
      cases h5
      have hy := (List.getElem?_eq_some_iff.mp e5).1
      have e : S = "none" := by
        rw [sw, e1, e2, e3]
        show (if inI (.int (x : Int)) gs.length then (if inI (.int (y : Int)) (shAt r (x : Int)).1 && inI (.int (z : Int)) (shAt r (x : Int)).2 then ("none" : Str) else "cell") else "grid") = "none"
        rw [es, inI_nat, inI_nat, inI_nat, decide_eq_true (show (x : Int) < gs.length by omega), decide_eq_true (show (y : Int) < xs.length by omega), decide_eq_true (show (z : Int) < (m' : Int) by omega)]
        rfl
      rw [en] at e7
      walk_at "pd"
      rw [if_neg (fun h => by rw [e7] at h; cases h.2), e]
      exact rd_neSame w1_none ⟨_, rfl, rfl⟩
    · rw [lgm] at q
      have e : S = "grid" := by
        rw [sw, show inI at' gs.length = false from q]
        rfl
      walk_at "pd"
      rw [e, if_neg (fun h => absurd h.1 (by decide))]
      exact rd_neSame w1_grid ⟨_, rfl, rfl⟩
    · obtain ⟨en, es, hx⟩ := shp12 H12 e2 g
      have e : S = "cell" := by
        rw [sw, e1]
        show (if inI (.int (x : Int)) gs.length then (if inI i (shAt r (x : Int)).1 && inI j (shAt r (x : Int)).2 then ("none" : Str) else "cell") else "grid") = "cell"
        rw [es, inI_nat, decide_eq_true (show (x : Int) < gs.length by omega), q]
        rfl
      walk_at "pd"
      rw [e, if_neg (fun h => absurd h.1 (by decide))]
      exact rd_neSame w1_cell ⟨_, rfl, rfl⟩
    · obtain ⟨en, es, hx⟩ := shp12 H12 e2 g
      have e : S = "none" := by
        rw [sw, e1]
        show (if inI (.int (x : Int)) gs.length then (if inI i (shAt r (x : Int)).1 && inI j (shAt r (x : Int)).2 then ("none" : Str) else "cell") else "grid") = "none"
        rw [es, inI_nat, decide_eq_true (show (x : Int) < gs.length by omega), q]
        rfl
      rw [en] at q2
      walk_at "pd"
      rw [if_pos ⟨e, q2⟩]
      exact rd_neSame w1_unit ⟨_, rfl, rfl⟩
  -- with_step
  walk_at "pd"
  refine ⟨r, rfl, by omega, by omega, H12.okr, fun st gst lst => ?_⟩
  (simp only [List.set_cons_succ, List.set_cons_zero, List.replicate_succ, List.replicate_zero, List.length_cons, List.length_nil])
  obtain ⟨f1, f2⟩ := fine_k sts.length s16
  refine sd_cut (fun δ => δ = [some .st, some (scF T.k_Script.C T.k_Grid.C gs sts r), some (.tup (gs.map (gridD T.k_Grid.C))), some (.tup (sts.map fun s => stD s.1 s.2)), some (.lst (r.map shD)), some at', some (.tup [.int s1, .int s2]), some i, some j, some t, some (if (madeD r st).isSome then w1 "none" else .tup [.str "script", .str (toString (sts.length : Int))]), some st, none]) ?_ fun δ hδ => ?_
  · walk_at "pd"
    refine ⟨r, st, rfl, by omega, gst.j, by omega, ?_⟩
    cases hm : madeD r st with
    | none =>
      unfold optSh
      walk_at "pd"
      rw [lsm]
      refine rc_reprI (Nat.lt_of_le_of_lt (Nat.log2_le_self _) (by show sts.length < 1920; omega)) ?_
      walk_at "pd"
      rfl
    | some p =>
      unfold optSh
      walk_at "pd"
      rfl
  subst hδ
  have gA := gA12 (CG := T.k_Grid.C) H12.gok
  obtain ⟨n0, m0, xs0, gs0, eg, gg0⟩ : ∃ n0 m0 xs0 gs0, gs.map (gridD T.k_Grid.C) = gd T.k_Grid.C n0 xs0 :: gs0 ∧ Grd n0 m0 xs0 := by
    cases gs with
    | nil => cases ex0
    | cons y ys =>
      obtain ⟨n0, m0, xs0, e, g⟩ := gA _ (List.mem_map.mpr ⟨y, List.mem_cons_self, rfl⟩)
      exact ⟨n0, m0, xs0, ys.map (gridD T.k_Grid.C), by rw [List.map_cons, e], g⟩
  refine sd_seq (sd_if (et_mid (fun b => b = false) ?_ fun bb hb => ⟨fun z => (by rw [hb] at z; cases z), fun _ => sd_next ?_⟩))
  · walk_at "pd"
    refine ⟨3, _, [st], rfl, fun P1 X1 c1 c2 => .inr (.inr (.inr (.inl ⟨rfl, st, rfl, n0, m0, xs0, gs0, _, r, st, by unfold scF; rw [eg], gg0, by rw [lsm]; omega, by omega, gst.j, by omega, fun q => c2 _ (.inr (.inr (.inr (.inr (.inr ⟨_, rfl, f2, ?_⟩))))), fun q q2 => c2 _ (.inr (.inr (.inr (.inr (.inl ⟨_, rfl, ?_, ?_⟩))))), fun p q q2 => c1 _ ?_⟩)))⟩
    · rw [lsm] at q
      walk_at "pd"
      rw [lsm]
      refine ⟨fun _ => ?_, fun z => absurd z (by simp; omega)⟩
      walk_at "pd"
      refine rc_reprS f2 ?_
      walk_at "pd"
      exact rd_neSame fine_st ⟨_, rfl, rfl⟩
    · rw [lsm]
      exact Nat.lt_of_le_of_lt (Nat.log2_le_self _) (by show sts.length < 1920; omega)
    · rw [lsm] at q ⊢
      walk_at "pd"
      rw [lsm]
      refine ⟨fun z => absurd z (by simp; omega), fun _ => ?_⟩
      walk_at "pd"
      rw [q2]
      exact rd_neSame f1 ⟨_, rfl, rfl⟩
    · rw [lsm] at q
      walk_at "pd"
      rw [lsm]
      refine ⟨fun z => absurd z (by simp; omega), fun _ => ?_⟩
      walk_at "pd"
      rw [q2]
      exact rd_neSame w1_none ⟨_, rfl, rfl⟩
  -- renamed
  walk_at "pd"
  rw [lgm]
  refine ⟨gs.length, rfl, by omega, by omega, fun od god lod => ?_⟩
  (simp only [List.set_cons_succ, List.set_cons_zero, List.replicate_succ, List.replicate_zero, List.length_cons, List.length_nil])
  walk_at "pd"
  refine ⟨4, _, [od], rfl, fun P1 X1 c1 c2 => .inr (.inr (.inr (.inr ⟨rfl, od, rfl, gs.map (gridD T.k_Grid.C), sts, r, od, rfl, by rw [lgm]; omega, by rw [lgm]; omega, s16, by rw [lgm]; exact lr, gA, H12.lk, god.j, by omega, fun q => c2 _ (.inr (.inr (.inr (.inl ⟨rfl, ?_⟩)))), fun l e1 e2 => c1 _ ?_⟩)))⟩
  · rw [lgm] at q
    walk_at "pd"
    rw [lgm]
    refine ⟨od, gs.length, rfl, god.j, by omega, by omega, ?_⟩
    rw [q]
    refine ⟨_, rfl, fun z => (by cases z), fun _ => ?_⟩
    walk_at "pd"
    exact rd_eqSame w1_order hP
  · rw [lgm] at e2
    have q : isOrd gs.length od = true := by rw [e1, isOrd_ints]; exact decide_eq_true e2
    walk_at "pd"
    rw [lgm]
    refine ⟨od, gs.length, rfl, god.j, by omega, by omega, ?_⟩
    rw [q]
    refine ⟨_, rfl, fun _ => ?_, fun z => (by cases z)⟩
    walk_at "pd"
    exact rd_eqSame w1_none hP
def F_Grid___eq__ {K : PySem.W.Frag} {mg : Str → Option Value} (T : Txt K mg) : FD := fun ds P => ∃ (n : Int) (m : Nat) (xs : List D) (y : D), ds = [gd T.k_Grid.C n xs, y] ∧ Grd n m xs ∧ ((∃ (n' : Int) (m' : Nat) (xs' : List D), y = gd T.k_Grid.C n' xs' ∧ Grd n' m' xs') ∨ isPl3 y = true) ∧ P (.bl (eqG n xs y))
theorem len_Grid___eq__ {K : PySem.W.Frag} {mg : Str → Option Value} (T : Txt K mg) : ∀ ds P, (F_Grid___eq__ T) ds P → ds.length = 2 := by (intro ds P h; first | exact h | (obtain ⟨_, rfl, _⟩ := h; rfl) | (obtain ⟨_, _, rfl, _⟩ := h; rfl) | (obtain ⟨_, _, _, rfl, _⟩ := h; rfl) | (obtain ⟨_, _, _, _, rfl, _⟩ := h; rfl) | (obtain ⟨_, _, _, _, _, rfl, _⟩ := h; rfl) | (obtain ⟨_, _, _, _, _, _, rfl, _⟩ := h; rfl) | (obtain ⟨_, _, _, _, _, _, _, rfl, _⟩ := h; rfl) | (obtain ⟨_, _, _, _, _, _, _, _, rfl, _⟩ := h; rfl) | (obtain ⟨_, _, _, _, _, _, _, _, _, rfl, _⟩ := h; rfl) | (obtain ⟨_, _, _, _, _, _, _, _, _, _, rfl, _⟩ := h; rfl) | (obtain ⟨_, _, _, _, _, _, _, _, _, _, _, rfl, _⟩ := h; rfl) | (obtain ⟨_, _, _, _, _, _, _, _, _, _, _, _, rfl, _⟩ := h; rfl) | (obtain ⟨_, _, _, _, _, _, _, _, _, _, _, _, _, rfl, _⟩ := h; rfl) | (obtain ⟨rfl, _⟩ := h; rfl))
theorem ok_Grid___eq__ (T : Txt K mg) : FnOk Pg T.w0 K mg base CX0 1 T.D_Grid___eq__.f T.D_Grid___eq__.d ["self", "other"] ((spD K (F_Grid___eq__ T))) := by
  refine T.D_Grid___eq__.F.ok (k := 0) sc_Grid___eq__ (spD_len (len_Grid___eq__ T)) (fun cdv A outer s H vs Q E hr h => ?_)
  refine ⟨_, (pss_one (ps_ret (pe_and (pe_callB (call_isiK' (K := K) rfl) (by rfl) T.n_isinstance (by decide +kernel) (pa_cons (pv 1) (pa_cons (pe_glob (v := .ref T.k_Grid.C) rfl T.k_Grid.g rfl) pa_nil))) (pe_and (pe_cmpR (op_eqDK (K := K) rfl (hr_u hr)) (pe_fldK (K := K) rfl (pv 0) rfl) (pe_fldK (K := K) rfl (pv 1) rfl) (nomark _)) (pe_one (pe_cmpR (op_eqDK (K := K) rfl (hr_u hr)) (pe_fldK (K := K) rfl (pv 0) rfl) (pe_fldK (K := K) rfl (pv 1) rfl) (nomark _))))))), ?_⟩
  try dsimp only [cxOf, Cx.blk, Cx.nox, Cx.wish]
  (refine body_of h fun W ds P eK f => ?_); subst eK
  obtain ⟨n, m, xs, y, rfl, g, hy, hP⟩ := f
  have qG := T.q_Grid
  walk_at "pd"
  try refine ev_obj ?_
  walk_at "pd"
  rcases hy with ⟨n', m', xs', rfl, g'⟩ | hy
  · refine rc_isiE qG T.k_Grid.o ?_
    simp only [eqG, eqvI] at hP
    walk_at "pd"
    (refine ev_fld ?_; refine ev_var rfl ?_; refine ⟨_, _, _, _, rfl, T.k_Grid.o.cl, T.na_Grid_bases, rfl, ?_⟩)
    walk_at "pd"
    (refine ev_fld ?_; refine ev_var rfl ?_; refine ⟨_, _, _, _, rfl, T.k_Grid.o.cl, T.na_Grid_bases, rfl, ?_⟩)
    walk_at "pd"
    refine ⟨fun q => ?_, fun q => ?_⟩
    · rw [q, Bool.true_and] at hP
      walk_at "pd"
      (refine ev_fld ?_; refine ev_var rfl ?_; refine ⟨_, _, _, _, rfl, T.k_Grid.o.cl, T.na_Grid_rows, rfl, ?_⟩)
      walk_at "pd"
      (refine ev_fld ?_; refine ev_var rfl ?_; refine ⟨_, _, _, _, rfl, T.k_Grid.o.cl, T.na_Grid_rows, rfl, ?_⟩)
      refine rd_eqD g.fine g'.fine ?_
      exact hP
    · rw [q, Bool.false_and] at hP
      exact hP
  · refine rc_isiP qG hy ?_
    have e : eqG n xs y = false := by cases y <;> first | rfl | cases hy
    rw [e] at hP
    walk_at "pd"
    exact hP
theorem stp_map {xs : List D} (h : ∀ x ∈ xs, isSt x) : ∃ sts : List (Str × List Int), xs = sts.map (fun s => stD s.1 s.2) ∧ ∀ s ∈ sts, kindLen.lookup s.1 = some ((s.2.length : Int) + 1) :=
  map_of fun e he => by
    obtain ⟨k, l, rfl, hk, _⟩ := h e he
    exact ⟨(k, l), rfl, hk⟩
/-- the steps of a run name what is there, the shapes are right -/
theorem run_okr : ∀ {sts : List (Str × List Int)} {shs r : List Sh} {k : Nat}, (∀ s ∈ sts, kindLen.lookup s.1 = some ((s.2.length : Int) + 1)) → (∀ p ∈ shs, okSh p) → runS shs (sts.map fun s => stD s.1 s.2) k = .inl r → (∀ p ∈ r, okSh p) ∧ r.length = shs.length + sts.length ∧ (∀ i, i < shs.length → r[i]? = shs[i]?) ∧ ∀ s ∈ sts, (srcs s.1 s.2).all (okSrc r.length) = true
  | [], shs, r, k, _, ok, h => by
    cases h
    exact ⟨ok, rfl, fun _ _ => rfl, fun _ h => by cases h⟩
  | s :: sts, shs, r, k, hk, ok, h => by
    have h : (match madeD shs (stD s.1 s.2) with
      | none => .inr k
      | some p => runS (shs ++ [p]) (sts.map fun s => stD s.1 s.2) (k + 1)) = Sum.inl r := h
    cases hm : madeD shs (stD s.1 s.2) with
    | none => rw [hm] at h; cases h
    | some p =>
      rw [hm] at h
      obtain ⟨a1, a2, a3, a4⟩ := run_okr (fun x hx => hk x (List.mem_cons_of_mem _ hx)) (fun q hq => by
        rcases List.mem_append.mp hq with hq | hq
        · exact ok q hq
        · rw [List.mem_singleton.mp hq]
          exact made_okSh ok hm) h
      rw [List.length_append] at a2 a3
      have a2 : r.length = shs.length + 1 + sts.length := a2
      have a3 : ∀ i, i < shs.length + 1 → r[i]? = (shs ++ [p])[i]? := a3
      refine ⟨a1, by rw [a2, List.length_cons]; omega, fun i hi => ?_, fun x hx => ?_⟩
      · rw [a3 i (by omega), List.getElem?_append_left hi]
      · rcases List.mem_cons.mp hx with rfl | hx
        · unfold madeD at hm
          rw [stepOf_stD (hk _ List.mem_cons_self)] at hm
          simp only at hm
          split at hm
          · rename_i hall
            refine List.all_eq_true.mpr fun v hv => ?_
            have := List.all_eq_true.mp hall v hv
            unfold okSrc at this ⊢
            simp only [Bool.and_eq_true, decide_eq_true_eq] at this ⊢
            exact ⟨this.1, by omega⟩
          · cases hm
        · exact a4 x hx
set_option maxHeartbeats 0 in
theorem ok_law (T : Txt K mg) : FnOk Pg T.w0 K mg base CX0 14 T.D_law.f T.D_law.d ["script"] (spLaw K) := by
  have G_Grid___eq__ := ok_Grid___eq__ (Pg := Pg) (base := base) T
  have G_Script___init__ := ok_Script___init__ (Pg := Pg) (base := base) T
  have G__law_are_refused := ok__law_are_refused (Pg := Pg) (base := base) T
  have G__law_draw := ok__law_draw (Pg := Pg) (base := base) T
  have G__law_grid := ok__law_grid (Pg := Pg) (base := base) T
  have G__law_state := ok__law_state (Pg := Pg) (base := base) T
  have G__law_steps := ok__law_steps (Pg := Pg) (base := base) T
  refine T.D_law.F.ok (k := 13) sc_law (fun vs H Q E h => by obtain ⟨_, _, rfl, _⟩ := h; rfl) (fun cdv A outer s H vs Q E hr h => ?_)
  refine ⟨_, (pss_cons (ps_set (i := 1) sc_law.nd rfl (by first | exact Or.inl rfl | exact Or.inr rfl) (pe_call G__law_state (hr.mono (by decide)) (by rfl) T.D__law_state.g T.D__law_state.F.kp T.D__law_state.b .nil pass0 (pa_cons (pv 0) (pa_cons pe_int pa_nil))))
    (pss_cons (ps_set (i := 2) sc_law.nd rfl (by first | exact Or.inl rfl | exact Or.inr rfl) (pe_op (op_plusK (K := K) rfl) pe_int (pe_call G__law_draw (hr.mono (by decide)) (by rfl) T.D__law_draw.g T.D__law_draw.F.kp T.D__law_draw.b .nil pass0 (pa_cons (pv 1) (pa_cons pe_int pa_nil)))))
    (pss_cons (ps_set (i := 3) sc_law.nd rfl (by first | exact Or.inl rfl | exact Or.inr rfl) (pe_op (op_plusK (K := K) rfl) pe_int (pe_call G__law_draw (hr.mono (by decide)) (by rfl) T.D__law_draw.g T.D__law_draw.F.kp T.D__law_draw.b .nil pass0 (pa_cons (pv 1) (pa_cons pe_int pa_nil)))))
    (pss_cons (ps_set (i := 4) sc_law.nd rfl (by first | exact Or.inl rfl | exact Or.inr rfl) (pe_ix (ix_seqK (K := K) rfl) (pe_lst (pa_cons pe_int (pa_cons pe_int (pa_cons (pe_call G__law_draw (hr.mono (by decide)) (by rfl) T.D__law_draw.g T.D__law_draw.F.kp T.D__law_draw.b .nil pass0 (pa_cons (pv 1) (pa_cons pe_int pa_nil))) pa_nil)))) (pe_call G__law_draw (hr.mono (by decide)) (by rfl) T.D__law_draw.g T.D__law_draw.F.kp T.D__law_draw.b .nil pass0 (pa_cons (pv 1) (pa_cons pe_int pa_nil))) (fun _ _ => rfl)))
    (pss_cons (ps_set (i := 5) sc_law.nd rfl (by first | exact Or.inl rfl | exact Or.inr rfl) (pe_callTy (call_tuple_ofK (K := K) rfl) (by rfl) T.n_tuple (by decide +kernel) (pa_cons (pe_lc (own := [("k", 9)]) rfl sc_law.nd (pi_range1 (by rfl) T.n_range (pa_cons (pe_op (op_plusK (K := K) rfl) pe_int (pe_call G__law_draw (hr.mono (by decide)) (by rfl) T.D__law_draw.g T.D__law_draw.F.kp T.D__law_draw.b .nil pass0 (pa_cons (pv 1) (pa_cons pe_int pa_nil)))) pa_nil)) (blkOk_by (N := ["script", "state", "bases", "many", "count", "grids", "shapes", "steps", "made", "k", "grid"]) (sc := defScope s_law) (by decide +kernel)) (fun _ _ _ _ _ => (pg_name (i := 9) sc_law.nd rfl (by first | exact Or.inl rfl | exact Or.inr rfl))) (fun _ _ _ _ _ => pts_nil) (fun _ _ _ _ _ => (pe_call G__law_grid (hr.mono (by decide)) (by rfl) T.D__law_grid.g T.D__law_grid.F.kp T.D__law_grid.b .nil pass0 (pa_cons (pv 1) (pa_cons (pv 2) (pa_cons (pv 3) pa_nil)))))) pa_nil)))
    (pss_cons (ps_setLc (i := 6) (own := [("grid", 10)]) rfl sc_law.nd rfl rfl (sw_true rfl rfl rfl (by decide +kernel)) (pi_seqK (K := K) rfl (pv 5)) (blkOk_by (N := ["script", "state", "bases", "many", "count", "grids", "shapes", "steps", "made", "k", "grid"]) (sc := defScope s_law) (by decide +kernel)) (fun _ _ _ _ _ => (pg_name (i := 10) sc_law.nd rfl (by first | exact Or.inl rfl | exact Or.inr rfl))) (fun _ _ _ _ _ => pts_nil) (fun _ _ _ _ _ => (pe_tup (pa_cons (pe_callB (call_lenK (K := K) rfl) (by rfl) T.n_len (by decide +kernel) (pa_cons (pe_fldK (K := K) rfl (pv 10) rfl) pa_nil)) (pa_cons (pe_callB (call_lenK (K := K) rfl) (by rfl) T.n_len (by decide +kernel) (pa_cons (pe_ix (ix_seqK (K := K) rfl) (pe_fldK (K := K) rfl (pv 10) rfl) pe_int (fun _ _ => rfl)) pa_nil)) pa_nil)))))
    (pss_cons (ps_set (i := 7) sc_law.nd rfl (by first | exact Or.inl rfl | exact Or.inr rfl) (pe_call G__law_steps (hr.mono (by decide)) (by rfl) T.D__law_steps.g T.D__law_steps.F.kp T.D__law_steps.b .nil pass0 (pa_cons (pv 1) (pa_cons (pv 6) (pa_cons (pv 4) pa_nil)))))
    (pss_cons (ps_set (i := 8) sc_law.nd rfl (by first | exact Or.inl rfl | exact Or.inr rfl) (pe_make T.k_Script.m G_Script___init__ (hr.mono (by decide)) (by rfl) T.k_Script.g T.D_Script___init__.b .nil passF (pa_cons (pv 5) (pa_cons (pv 7) pa_nil))))
    (pss_cons (ps_for PassesOwn.never rfl (pi_range1 (by rfl) T.n_range (pa_cons pe_int pa_nil)) (pg_name (i := 9) sc_law.nd rfl (by first | exact Or.inl rfl | exact Or.inr rfl))
      (pss_one (ps_if (pt_not (pt_val (pe_call G__law_are_refused (hr.mono (by decide)) (by rfl) T.D__law_are_refused.g T.D__law_are_refused.F.kp T.D__law_are_refused.b .nil pass0 (pa_cons (pv 1) (pa_cons (pv 8) (pa_cons (pv 5) (pa_cons (pv 7) (pa_cons (pv 6) pa_nil))))))))
      (pss_one (ps_ret pe_bl))
      pss_nil)))
    (pss_one (ps_ret (pe_and (pe_cmpR (op_eqGK (C := T.k_Grid.C) (K := K) rfl T.q_Grid G_Grid___eq__ (hr.mono (by decide)) T.D_Grid___eq__.b pass0 (fun n m xs n' m' xs' g g' e => ⟨n, m, xs, _, rfl, g, .inl ⟨n', m', xs', rfl, g'⟩, congrArg D.bl e⟩)) (pe_fldK (K := K) rfl (pv 8) rfl) (pv 5) (nomark _)) (pe_one (pe_cmpR (op_eqDK (K := K) rfl (hr_u hr)) (pe_fldK (K := K) rfl (pv 8) rfl) (pv 7) (nomark _))))))))))))))), ?_⟩
  try dsimp only [cxOf, Cx.blk, Cx.nox, Cx.wish]
  refine law_bodyO h (by decide) (by decide) fun W eK => ?_
  subst eK
  have oG := T.k_Grid.o
  refine so_seq (so_lift ?_)
  walk_at "pd"
  refine draw_lit (by decide +kernel) fun b b0 b1 => ?_
  walk_at "pd"
  refine so_seq (so_lift ?_)
  walk_at "pd"
  refine draw_lit (by decide +kernel) fun m m0 m1 => ?_
  walk_at "pd"
  refine so_seq (so_lift ?_)
  walk_at "pd"
  refine draw_lit (by decide +kernel) fun c c0 c1 => ?_
  walk_at "pd"
  refine draw_lit (by decide +kernel) fun c' c0' c1' => ?_
  refine rd_ixLm (by omega) (by show c' < 3; omega) fun cd hcd => ?_
  have hcd : ∃ cn : Int, cd = .int cn ∧ 0 ≤ cn ∧ cn ≤ 16 := by
    simp only [List.mem_cons, List.not_mem_nil, or_false] at hcd
    rcases hcd with rfl | rfl | rfl <;> exact ⟨_, rfl, by omega, by omega⟩
  obtain ⟨cn, rfl, cn0, cn16⟩ := hcd
  refine so_seq (so_lift ?_)
  walk_at "pd"
  refine ev_lcAll (fun y => ∃ (w : Nat) (zs : List D), y = gd T.k_Grid.C (1 + b) zs ∧ Grd (1 + b) w zs ∧ zs.length ≤ 5 ∧ w ≤ 5) (it_rng1 ?_)
  walk_at "pd"
  refine draw_lit (by decide +kernel) fun c2 c20 c21 => ?_
  walk_at "pd"
  refine ⟨_, rfl, by omega, by omega, by rw [rngD_length]; omega, fun i d hd => ⟨[9], by simp, gd_name ?_⟩, fun gs lg hG => ?_⟩
  · walk_at "pd"
    exact ⟨_, _, rfl, by omega, by omega, by omega, by omega, fun w zs g l5 w5 => ⟨w, zs, rfl, g, l5, w5⟩⟩
  rw [rngD_length] at lg
  obtain ⟨gs, rfl, hq⟩ := map_of (f := gridD T.k_Grid.C) (Q := fun x => x.1 = .int (1 + b) ∧ ∃ w, Grd (1 + b) w (x.2.map .tup)) (l := gs) fun e he => by
    obtain ⟨w, zs, rfl, g, _⟩ := hG e he
    refine ⟨(.int (1 + b), zs.map PD.items), ?_, rfl, w, ?_⟩
    · show gd _ _ _ = gd _ _ ((zs.map PD.items).map D.tup)
      rw [Grd.items g]
    · show Grd _ _ ((zs.map PD.items).map D.tup)
      rw [Grd.items g]
      exact g
  rw [List.length_map] at lg
  have hO : GsOk (1 + b) gs := ⟨by omega, by omega, hq⟩
  (simp only [List.set_cons_succ, List.set_cons_zero, List.replicate_succ, List.replicate_zero, List.length_cons, List.length_nil])
  walk_at "pd"
  refine so_seq (so_asgF (ev_lcMF gs (gridD T.k_Grid.C) (fun x => shD (shG (gridD T.k_Grid.C x))) (it_seqT (ev_var rfl ⟨_, rfl, rfl, by omega, fun i x hx => ⟨_, by simp, gd_name ?_⟩, fun p np => ?_⟩))))
  · obtain ⟨w, a1, a2, a3, a4, a5, a6⟩ := hO.row (List.mem_of_getElem? hx)
    have e0 : (x.2.map D.tup)[0]? = some (.tup x.2[0]) := by rw [List.getElem?_map, List.getElem?_eq_getElem (by omega)]; rfl
    have w0 := (a5 _ (List.getElem_mem (show 0 < x.2.length by omega))).1
    walk_at "pd"
    (refine ev_fld ?_; refine ev_var rfl ?_; refine ⟨_, _, _, _, rfl, T.k_Grid.o.cl, T.na_Grid_rows, rfl, ?_⟩)
    walk_at "pd"
    (refine ev_fld ?_; refine ev_var rfl ?_; refine ⟨_, _, _, _, rfl, T.k_Grid.o.cl, T.na_Grid_rows, rfl, ?_⟩)
    walk_at "pd"
    refine rd_ixT (j := 0) rfl e0 ?_
    walk_at "pd"
    rw [a6, w0, List.length_map]
    rfl
  rw [show (gs.map fun x => shD (shG (gridD T.k_Grid.C x))) = (gs.map fun x => shG (gridD T.k_Grid.C x)).map shD from by rw [List.map_map]; rfl]
  have okg : ∀ p ∈ gs.map (fun x => shG (gridD T.k_Grid.C x)), okSh p := fun p hp => by
    obtain ⟨e, he, rfl⟩ := List.mem_map.mp hp
    obtain ⟨w, a1, a2, a3, a4, a5, a6⟩ := hO.row he
    rw [a6]
    show 1 ≤ (e.2.length : Int) ∧ (e.2.length : Int) ≤ 12 ∧ 1 ≤ (w : Int) ∧ (w : Int) ≤ 12
    omega
  refine so_seq (so_callJ rfl (Has.new (fun x hx => by cases hx)) ?_)
  walk_at "pd"
  refine ⟨gs.map fun x => shG (gridD T.k_Grid.C x), cn, rfl, by rw [List.length_map]; omega, by rw [List.length_map]; omega, cn0, by omega, okg, fun xs r lx hx hr => ?_⟩
  have xG : ∀ e ∈ xs, Gd W.K e ∧ e.len ≤ 1000 := fun e he => ⟨(isSt_gd W.K (hx e he)).1, by have := (isSt_gd W.K (hx e he)).2; omega⟩
  have gxs : Gd W.K (.tup xs) := .tup (fun e he => (xG e he).1) (by omega)
  obtain ⟨sts, rfl, hk⟩ := stp_map hx
  rw [List.length_map] at lx
  obtain ⟨F, hS⟩ := scf_ex (CG := T.k_Grid.C) hO (by omega) hk hr
  obtain ⟨q1, q2, q3, q4⟩ := run_okr hk okg hr
  rw [List.length_map] at q2 q3
  have H12 : Sc12 T.k_Grid.C (1 + b) gs sts F r := ⟨hO, by omega, by omega, hS, by omega, fun s hs => ⟨hk s hs, q4 s hs⟩, fun i x hx => by
    rw [q3 i (List.getElem?_eq_some_iff.mp hx).1, List.getElem?_map, hx]
    rfl, q1⟩
  have gB : ∀ e ∈ gs.map (gridD T.k_Grid.C), ∃ xs, e = gd T.k_Grid.C (1 + b) xs := fun e he => by
    obtain ⟨x, hx, rfl⟩ := List.mem_map.mp he
    obtain ⟨e, _⟩ := hq x hx
    exact ⟨_, by rw [← show (gridD T.k_Grid.C x) = gd T.k_Grid.C (1 + b) (x.2.map .tup) from by unfold gridD; rw [e]]⟩
  have gA := gA12 (CG := T.k_Grid.C) hO
  have ggs : Gd W.K (.tup (gs.map (gridD T.k_Grid.C))) := .tup (fun e he => by
    obtain ⟨n, m, xs, rfl, g⟩ := gA e he
    exact ⟨by simp only [Jd]; exact oG, by simp only [D.slim]⟩) (by rw [List.length_map]; omega)
  have gO : ∀ e ∈ gs.map (gridD T.k_Grid.C), okIns T.k_Grid.C e := fun e he => by
    obtain ⟨n, m, xs, rfl, g⟩ := gA e he
    exact okIns_gd g
  have hr2 : runS ((gs.map (gridD T.k_Grid.C)).map shG) (sts.map fun s => stD s.1 s.2) 0 = .inl r := by rw [List.map_map]; exact hr
  have hw : wrongS (.tup (gs.map (gridD T.k_Grid.C))) (.tup (sts.map fun s => stD s.1 s.2)) = .non := wrongS_good (n := 1 + b) (by rw [List.length_map]; omega) (by rw [List.length_map]; omega) gB (by rw [List.length_map]; omega) hr2
  have hp : putO [(p, (gs.map fun x => shG (gridD T.k_Grid.C x)).map shD)] p (fun _ => r.map shD) = [(p, r.map shD)] := by simp [putO]
  dsimp only
  rw [hp]
  refine so_seq (so_lift ?_)
  walk_at "pd"
  refine ⟨.tup (gs.map (gridD T.k_Grid.C)), .tup (sts.map fun s => stD s.1 s.2), rfl, rfl, ggs.j, ggs.lenD, okIns2_tup gO, gxs.j, gxs.lenD, fun ys e x hx => by cases e; exact (xG x hx).2, fun gs2 xs2 r2 hn e1 e2 e3 => ?_, fun hn => absurd hw hn⟩
  cases e1
  cases e2
  rw [hr2] at e3
  cases e3
  (simp only [List.set_cons_succ, List.set_cons_zero, List.replicate_succ, List.replicate_zero, List.length_cons, List.length_nil])
  refine so_seq (so_for (it_rng1 ?_))
  walk_at "pd"
  refine ⟨_, rfl, by decide, by decide, fun k ω δ => ∃ x9 : Option D, ω = [(p, r.map shD)] ∧ δ = [none, some .st, some (.int (1 + b)), some (.int (1 + m)), some (.int cn), some (.tup (gs.map (gridD T.k_Grid.C))), some (.obj p), some (.tup (sts.map fun s => stD s.1 s.2)), some (scF T.k_Script.C T.k_Grid.C gs sts r), x9, none], ⟨none, rfl, rfl⟩, fun k d ω δ hd hI => ?_, fun ω δ hI => ?_⟩
  · obtain ⟨x9, rfl, rfl⟩ := hI
    refine ⟨_, gd_name ?_⟩
    refine so_ifL (evtl_put (a := p) 6 rfl List.mem_cons_self (evtl_ev ?_))
    walk_at "pd"
    refine ⟨1 + b, gs, sts, F, r, rfl, H12, ?_⟩
    refine ⟨true, rfl, fun z => (by cases z), fun _ => ?_⟩
    exact so_next ⟨some d, rfl, rfl⟩
  · obtain ⟨x9, rfl, rfl⟩ := hI
    refine so_lift ?_
    have eg : ∀ (i : Nat) (x y : D), (gs.map (gridD T.k_Grid.C))[i]? = some x → (gs.map (gridD T.k_Grid.C))[i]? = some y → ∃ n m zs n' m' zs', x = gd T.k_Grid.C n zs ∧ y = gd T.k_Grid.C n' zs' ∧ Grd n m zs ∧ Grd n' m' zs' ∧ eqG n zs (gd T.k_Grid.C n' zs') = true := fun i x y h1 h2 => by
      rw [h1] at h2
      cases h2
      obtain ⟨n, m', zs, rfl, gz⟩ := gA x (List.mem_of_getElem? h1)
      refine ⟨n, m', zs, n, m', zs, rfl, rfl, gz, gz, ?_⟩
      show (D.eqv (.int n) (.int n) && D.eqv (.tup zs) (.tup zs)) = true
      rw [eqvI, D.eqv_self gz.fine]
      simp
    have fx := steps_fine (runS_st hr)
    walk_at "pd"
    refine ev_fld ?_
    refine ev_var rfl ?_
    refine ⟨_, _, _, _, rfl, T.k_Script.o.cl, T.na_Script_grids, rfl, ?_⟩
    walk_at "pd"
    refine rd_eqGs rfl eg ?_
    refine ⟨true, rfl, fun _ => ?_, fun z => (by cases z)⟩
    walk_at "pd"
    refine ev_fld ?_
    refine ev_var rfl ?_
    refine ⟨_, _, _, _, rfl, T.k_Script.o.cl, T.na_Script_steps, rfl, ?_⟩
    walk_at "pd"
    refine rd_eqD fx fx ?_
    rw [D.eqv_self fx]
end
theorem all_mk {Pg : Program} {w : World} {K : PySem.W.Frag} {h : Heap} {mg : Str → Option Value} {fa : Addr} (X : K.In h) (G : h.Ns mainGlobals mg) (hfa : mg "law" = some (.ref fa))
    {f0 : Addr} {od0 an0 : Option Addr} {sl0 : Array (Option Value)} {oc0 kV0 dc0 pm0 cd0 ct0 : Value}
    {f1 : Addr} {od1 an1 : Option Addr} {sl1 : Array (Option Value)} {oc1 kV1 dc1 pm1 cd1 ct1 : Value}
    {f2 : Addr} {od2 an2 : Option Addr} {sl2 : Array (Option Value)} {oc2 kV2 dc2 pm2 cd2 ct2 : Value}
    {f3 : Addr} {od3 an3 : Option Addr} {sl3 : Array (Option Value)} {oc3 kV3 dc3 pm3 cd3 ct3 : Value}
    {f4 : Addr} {od4 an4 : Option Addr} {sl4 : Array (Option Value)} {oc4 kV4 dc4 pm4 cd4 ct4 : Value}
    {f5 : Addr} {od5 an5 : Option Addr} {sl5 : Array (Option Value)} {oc5 kV5 dc5 pm5 cd5 ct5 : Value}
    {f6 : Addr} {od6 an6 : Option Addr} {sl6 : Array (Option Value)} {oc6 kV6 dc6 pm6 cd6 ct6 : Value}
    {f7 : Addr} {od7 an7 : Option Addr} {sl7 : Array (Option Value)} {oc7 kV7 dc7 pm7 cd7 ct7 : Value}
    {f8 : Addr} {od8 an8 : Option Addr} {sl8 : Array (Option Value)} {oc8 kV8 dc8 pm8 cd8 ct8 : Value}
    {f9 : Addr} {od9 an9 : Option Addr} {sl9 : Array (Option Value)} {oc9 kV9 dc9 pm9 cd9 ct9 : Value}
    {f10 : Addr} {od10 an10 : Option Addr} {sl10 : Array (Option Value)} {oc10 kV10 dc10 pm10 cd10 ct10 : Value}
    {f11 : Addr} {od11 an11 : Option Addr} {sl11 : Array (Option Value)} {oc11 kV11 dc11 pm11 cd11 ct11 : Value}
    {f12 : Addr} {od12 an12 : Option Addr} {sl12 : Array (Option Value)} {oc12 kV12 dc12 pm12 cd12 ct12 : Value}
    {f13 : Addr} {od13 an13 : Option Addr} {sl13 : Array (Option Value)} {oc13 kV13 dc13 pm13 cd13 ct13 : Value}
    {f14 : Addr} {od14 an14 : Option Addr} {sl14 : Array (Option Value)} {oc14 kV14 dc14 pm14 cd14 ct14 : Value}
    {f15 : Addr} {od15 an15 : Option Addr} {sl15 : Array (Option Value)} {oc15 kV15 dc15 pm15 cd15 ct15 : Value}
    {f16 : Addr} {od16 an16 : Option Addr} {sl16 : Array (Option Value)} {oc16 kV16 dc16 pm16 cd16 ct16 : Value}
    {f17 : Addr} {od17 an17 : Option Addr} {sl17 : Array (Option Value)} {oc17 kV17 dc17 pm17 cd17 ct17 : Value}
    {f18 : Addr} {od18 an18 : Option Addr} {sl18 : Array (Option Value)} {oc18 kV18 dc18 pm18 cd18 ct18 : Value}
    {f19 : Addr} {od19 an19 : Option Addr} {sl19 : Array (Option Value)} {oc19 kV19 dc19 pm19 cd19 ct19 : Value}
    {f20 : Addr} {od20 an20 : Option Addr} {sl20 : Array (Option Value)} {oc20 kV20 dc20 pm20 cd20 ct20 : Value}
    {f21 : Addr} {od21 an21 : Option Addr} {sl21 : Array (Option Value)} {oc21 kV21 dc21 pm21 cd21 ct21 : Value}
    {f22 : Addr} {od22 an22 : Option Addr} {sl22 : Array (Option Value)} {oc22 kV22 dc22 pm22 cd22 ct22 : Value}
    {f23 : Addr} {od23 an23 : Option Addr} {sl23 : Array (Option Value)} {oc23 kV23 dc23 pm23 cd23 ct23 : Value}
    {f24 : Addr} {od24 an24 : Option Addr} {sl24 : Array (Option Value)} {oc24 kV24 dc24 pm24 cd24 ct24 : Value}
    {f25 : Addr} {od25 an25 : Option Addr} {sl25 : Array (Option Value)} {oc25 kV25 dc25 pm25 cd25 ct25 : Value}
    {f26 : Addr} {od26 an26 : Option Addr} {sl26 : Array (Option Value)} {oc26 kV26 dc26 pm26 cd26 ct26 : Value}
    {f27 : Addr} {od27 an27 : Option Addr} {sl27 : Array (Option Value)} {oc27 kV27 dc27 pm27 cd27 ct27 : Value}
    {f28 : Addr} {od28 an28 : Option Addr} {sl28 : Array (Option Value)} {oc28 kV28 dc28 pm28 cd28 ct28 : Value}
    {f29 : Addr} {od29 an29 : Option Addr} {sl29 : Array (Option Value)} {oc29 kV29 dc29 pm29 cd29 ct29 : Value}
    {f30 : Addr} {od30 an30 : Option Addr} {sl30 : Array (Option Value)} {oc30 kV30 dc30 pm30 cd30 ct30 : Value}
    {f31 : Addr} {od31 an31 : Option Addr} {sl31 : Array (Option Value)} {oc31 kV31 dc31 pm31 cd31 ct31 : Value}
    {f32 : Addr} {od32 an32 : Option Addr} {sl32 : Array (Option Value)} {oc32 kV32 dc32 pm32 cd32 ct32 : Value}
    {f33 : Addr} {od33 an33 : Option Addr} {sl33 : Array (Option Value)} {oc33 kV33 dc33 pm33 cd33 ct33 : Value}
    {f34 : Addr} {od34 an34 : Option Addr} {sl34 : Array (Option Value)} {oc34 kV34 dc34 pm34 cd34 ct34 : Value}
    {f35 : Addr} {od35 an35 : Option Addr} {sl35 : Array (Option Value)} {oc35 kV35 dc35 pm35 cd35 ct35 : Value}
    {f36 : Addr} {od36 an36 : Option Addr} {sl36 : Array (Option Value)} {oc36 kV36 dc36 pm36 cd36 ct36 : Value}
    {f37 : Addr} {od37 an37 : Option Addr} {sl37 : Array (Option Value)} {oc37 kV37 dc37 pm37 cd37 ct37 : Value}
    {f38 : Addr} {od38 an38 : Option Addr} {sl38 : Array (Option Value)} {oc38 kV38 dc38 pm38 cd38 ct38 : Value}
    {f39 : Addr} {od39 an39 : Option Addr} {sl39 : Array (Option Value)} {oc39 kV39 dc39 pm39 cd39 ct39 : Value}
    {f40 : Addr} {od40 an40 : Option Addr} {sl40 : Array (Option Value)} {oc40 kV40 dc40 pm40 cd40 ct40 : Value}
    {f41 : Addr} {od41 an41 : Option Addr} {sl41 : Array (Option Value)} {oc41 kV41 dc41 pm41 cd41 ct41 : Value}
    {f42 : Addr} {od42 an42 : Option Addr} {sl42 : Array (Option Value)} {oc42 kV42 dc42 pm42 cd42 ct42 : Value}
    {f43 : Addr} {od43 an43 : Option Addr} {sl43 : Array (Option Value)} {oc43 kV43 dc43 pm43 cd43 ct43 : Value}
    {f44 : Addr} {od44 an44 : Option Addr} {sl44 : Array (Option Value)} {oc44 kV44 dc44 pm44 cd44 ct44 : Value}
    {f45 : Addr} {od45 an45 : Option Addr} {sl45 : Array (Option Value)} {oc45 kV45 dc45 pm45 cd45 ct45 : Value}
    {f46 : Addr} {od46 an46 : Option Addr} {sl46 : Array (Option Value)} {oc46 kV46 dc46 pm46 cd46 ct46 : Value}
    {f47 : Addr} {od47 an47 : Option Addr} {sl47 : Array (Option Value)} {oc47 kV47 dc47 pm47 cd47 ct47 : Value}
    {f48 : Addr} {od48 an48 : Option Addr} {sl48 : Array (Option Value)} {oc48 kV48 dc48 pm48 cd48 ct48 : Value}
    {f49 : Addr} {od49 an49 : Option Addr} {sl49 : Array (Option Value)} {oc49 kV49 dc49 pm49 cd49 ct49 : Value}
    {f50 : Addr} {od50 an50 : Option Addr} {sl50 : Array (Option Value)} {oc50 kV50 dc50 pm50 cd50 ct50 : Value}
    {f51 : Addr} {od51 an51 : Option Addr} {sl51 : Array (Option Value)} {oc51 kV51 dc51 pm51 cd51 ct51 : Value}
    {f52 : Addr} {od52 an52 : Option Addr} {sl52 : Array (Option Value)} {oc52 kV52 dc52 pm52 cd52 ct52 : Value}
    {f53 : Addr} {od53 an53 : Option Addr} {sl53 : Array (Option Value)} {oc53 kV53 dc53 pm53 cd53 ct53 : Value}
    {f54 : Addr} {od54 an54 : Option Addr} {sl54 : Array (Option Value)} {oc54 kV54 dc54 pm54 cd54 ct54 : Value}
    {f55 : Addr} {od55 an55 : Option Addr} {sl55 : Array (Option Value)} {oc55 kV55 dc55 pm55 cd55 ct55 : Value}
    {f56 : Addr} {od56 an56 : Option Addr} {sl56 : Array (Option Value)} {oc56 kV56 dc56 pm56 cd56 ct56 : Value}
    {f57 : Addr} {od57 an57 : Option Addr} {sl57 : Array (Option Value)} {oc57 kV57 dc57 pm57 cd57 ct57 : Value}
    {f58 : Addr} {od58 an58 : Option Addr} {sl58 : Array (Option Value)} {oc58 kV58 dc58 pm58 cd58 ct58 : Value}
    {f59 : Addr} {od59 an59 : Option Addr} {sl59 : Array (Option Value)} {oc59 kV59 dc59 pm59 cd59 ct59 : Value}
    {f60 : Addr} {od60 an60 : Option Addr} {sl60 : Array (Option Value)} {oc60 kV60 dc60 pm60 cd60 ct60 : Value}
    {f61 : Addr} {od61 an61 : Option Addr} {sl61 : Array (Option Value)} {oc61 kV61 dc61 pm61 cd61 ct61 : Value}
    {f62 : Addr} {od62 an62 : Option Addr} {sl62 : Array (Option Value)} {oc62 kV62 dc62 pm62 cd62 ct62 : Value}
    {f63 : Addr} {od63 an63 : Option Addr} {sl63 : Array (Option Value)} {oc63 kV63 dc63 pm63 cd63 ct63 : Value}
    {f64 : Addr} {od64 an64 : Option Addr} {sl64 : Array (Option Value)} {oc64 kV64 dc64 pm64 cd64 ct64 : Value}
    {f65 : Addr} {od65 an65 : Option Addr} {sl65 : Array (Option Value)} {oc65 kV65 dc65 pm65 cd65 ct65 : Value}
    {f66 : Addr} {od66 an66 : Option Addr} {sl66 : Array (Option Value)} {oc66 kV66 dc66 pm66 cd66 ct66 : Value}
    {f67 : Addr} {od67 an67 : Option Addr} {sl67 : Array (Option Value)} {oc67 kV67 dc67 pm67 cd67 ct67 : Value}
    {f68 : Addr} {od68 an68 : Option Addr} {sl68 : Array (Option Value)} {oc68 kV68 dc68 pm68 cd68 ct68 : Value}
    {f69 : Addr} {od69 an69 : Option Addr} {sl69 : Array (Option Value)} {oc69 kV69 dc69 pm69 cd69 ct69 : Value}
    {f70 : Addr} {od70 an70 : Option Addr} {sl70 : Array (Option Value)} {oc70 kV70 dc70 pm70 cd70 ct70 : Value}
    {f71 : Addr} {od71 an71 : Option Addr} {sl71 : Array (Option Value)} {oc71 kV71 dc71 pm71 cd71 ct71 : Value}
    {f72 : Addr} {od72 an72 : Option Addr} {sl72 : Array (Option Value)} {oc72 kV72 dc72 pm72 cd72 ct72 : Value}
    {f73 : Addr} {od73 an73 : Option Addr} {sl73 : Array (Option Value)} {oc73 kV73 dc73 pm73 cd73 ct73 : Value}
    {f74 : Addr} {od74 an74 : Option Addr} {sl74 : Array (Option Value)} {oc74 kV74 dc74 pm74 cd74 ct74 : Value}
    {f75 : Addr} {od75 an75 : Option Addr} {sl75 : Array (Option Value)} {oc75 kV75 dc75 pm75 cd75 ct75 : Value}
    {f76 : Addr} {od76 an76 : Option Addr} {sl76 : Array (Option Value)} {oc76 kV76 dc76 pm76 cd76 ct76 : Value}
    {f77 : Addr} {od77 an77 : Option Addr} {sl77 : Array (Option Value)} {oc77 kV77 dc77 pm77 cd77 ct77 : Value}
    {f78 : Addr} {od78 an78 : Option Addr} {sl78 : Array (Option Value)} {oc78 kV78 dc78 pm78 cd78 ct78 : Value}
    {f79 : Addr} {od79 an79 : Option Addr} {sl79 : Array (Option Value)} {oc79 kV79 dc79 pm79 cd79 ct79 : Value}
    {f80 : Addr} {od80 an80 : Option Addr} {sl80 : Array (Option Value)} {oc80 kV80 dc80 pm80 cd80 ct80 : Value}
    {f81 : Addr} {od81 an81 : Option Addr} {sl81 : Array (Option Value)} {oc81 kV81 dc81 pm81 cd81 ct81 : Value}
    {f82 : Addr} {od82 an82 : Option Addr} {sl82 : Array (Option Value)} {oc82 kV82 dc82 pm82 cd82 ct82 : Value}
    {C_GridError : Addr}
    {nm_GridError : _} {q_GridError : _} {N_GridError : _} {bs_GridError : _} {bm_GridError : _} {sn_GridError : _} {sub_GridError : _} {ab_GridError : _} {col_GridError : _} {dd_GridError : _} {k0_GridError : _} {k1_GridError : _} {k2_GridError : _} {k3_GridError : _} {k5_GridError : _}
    {C_NoUnit : Addr}
    {nm_NoUnit : _} {q_NoUnit : _} {N_NoUnit : _} {bs_NoUnit : _} {bm_NoUnit : _} {sn_NoUnit : _} {sub_NoUnit : _} {ab_NoUnit : _} {col_NoUnit : _} {dd_NoUnit : _} {k0_NoUnit : _} {k1_NoUnit : _} {k2_NoUnit : _} {k3_NoUnit : _} {k5_NoUnit : _}
    {C_BadGrid : Addr}
    {nm_BadGrid : _} {q_BadGrid : _} {N_BadGrid : _} {bs_BadGrid : _} {bm_BadGrid : _} {sn_BadGrid : _} {sub_BadGrid : _} {ab_BadGrid : _} {col_BadGrid : _} {dd_BadGrid : _} {k0_BadGrid : _} {k1_BadGrid : _} {k2_BadGrid : _} {k3_BadGrid : _} {k5_BadGrid : _}
    {C_NoCell : Addr}
    {nm_NoCell : _} {q_NoCell : _} {N_NoCell : _} {bs_NoCell : _} {bm_NoCell : _} {sn_NoCell : _} {sub_NoCell : _} {ab_NoCell : _} {col_NoCell : _} {dd_NoCell : _} {k0_NoCell : _} {k1_NoCell : _} {k2_NoCell : _} {k3_NoCell : _} {k5_NoCell : _}
    {C_BadScript : Addr}
    {nm_BadScript : _} {q_BadScript : _} {N_BadScript : _} {bs_BadScript : _} {bm_BadScript : _} {sn_BadScript : _} {sub_BadScript : _} {ab_BadScript : _} {col_BadScript : _} {dd_BadScript : _} {k0_BadScript : _} {k1_BadScript : _} {k2_BadScript : _} {k3_BadScript : _} {k5_BadScript : _}
    {C_NoGrid : Addr}
    {nm_NoGrid : _} {q_NoGrid : _} {N_NoGrid : _} {bs_NoGrid : _} {bm_NoGrid : _} {sn_NoGrid : _} {sub_NoGrid : _} {ab_NoGrid : _} {col_NoGrid : _} {dd_NoGrid : _} {k0_NoGrid : _} {k1_NoGrid : _} {k2_NoGrid : _} {k3_NoGrid : _} {k5_NoGrid : _}
    {C_NoOrder : Addr}
    {nm_NoOrder : _} {q_NoOrder : _} {N_NoOrder : _} {bs_NoOrder : _} {bm_NoOrder : _} {sn_NoOrder : _} {sub_NoOrder : _} {ab_NoOrder : _} {col_NoOrder : _} {dd_NoOrder : _} {k0_NoOrder : _} {k1_NoOrder : _} {k2_NoOrder : _} {k3_NoOrder : _} {k5_NoOrder : _}
    {C_Cells : Addr}
    {C_Grid : Addr}
    {C_Script : Addr}
    {t_LENGTH_OF_TWO : Tok}
    {t_MOST_BASES : Tok}
    {t_MOST_BOTTOM : Tok}
    {t_MOST_GRIDS : Tok}
    {t_MOST_MADE : Tok}
    {t_MOST_ROWS : Tok}
    {t_MOST_STEPS : Tok}
    {t_MOST_TOP : Tok}
    {d_LENGTHS : Addr} {es_LENGTHS : Array DictEntry} {dn_LENGTHS : _}
    (a0 : PySem.W.nsIn K mainGlobals "_law_state" = some (some (.ref f0)))
    (a1 : PySem.W.nsIn K mainGlobals "_law_mixed" = some (some (.ref f1)))
    (a2 : PySem.W.nsIn K mainGlobals "_law_draw" = some (some (.ref f2)))
    (a3 : PySem.W.nsIn K mainGlobals "_law_fit" = some (some (.ref f3)))
    (a4 : PySem.W.nsIn K mainGlobals "_law_is_integer" = some (some (.ref f4)))
    (a5 : PySem.W.nsIn K mainGlobals "_law_made" = some (some (.ref f5)))
    (a6 : PySem.W.nsIn K mainGlobals "_law_step" = some (some (.ref f6)))
    (a7 : PySem.W.nsIn K mainGlobals "_law_steps" = some (some (.ref f7)))
    (a8 : PySem.W.nsIn K mainGlobals "_law_low" = some (some (.ref f8)))
    (a9 : PySem.W.nsIn K mainGlobals "_law_exponent" = some (some (.ref f9)))
    (a10 : PySem.W.nsIn K mainGlobals "_law_unit" = some (some (.ref f10)))
    (a11 : PySem.W.nsIn K mainGlobals "_law_cell" = some (some (.ref f11)))
    (a12 : PySem.W.nsIn K mainGlobals "_law_rows" = some (some (.ref f12)))
    (a13 : PySem.W.nsIn K mainGlobals "_has_grid_length" = some (some (.ref f13)))
    (a14 : PySem.W.nsIn K mainGlobals "is_whole" = some (some (.ref f14)))
    (a15 : PySem.W.nsIn K mainGlobals "is_pair" = some (some (.ref f15)))
    (a16 : PySem.W.nsIn K mainGlobals "is_fraction" = some (some (.ref f16)))
    (a17 : PySem.W.nsIn K mainGlobals "is_any_unit" = some (some (.ref f17)))
    (a18 : PySem.W.nsIn K mainGlobals "is_unit" = some (some (.ref f18)))
    (a19 : PySem.W.nsIn K mainGlobals "is_cell" = some (some (.ref f19)))
    (a20 : PySem.W.nsIn K mainGlobals "_wrong_part" = some (some (.ref f20)))
    (a23 : PySem.W.nsIn K mainGlobals "_law_grid" = some (some (.ref f23)))
    (a24 : PySem.W.nsIn K mainGlobals "_law_odd" = some (some (.ref f24)))
    (a25 : PySem.W.nsIn K mainGlobals "_law_place" = some (some (.ref f25)))
    (a26 : PySem.W.nsIn K mainGlobals "_law_thing" = some (some (.ref f26)))
    (a27 : PySem.W.nsIn K mainGlobals "_law_is_place" = some (some (.ref f27)))
    (a28 : PySem.W.nsIn K mainGlobals "_law_spot" = some (some (.ref f28)))
    (a29 : PySem.W.nsIn K mainGlobals "_law_some_step" = some (some (.ref f29)))
    (a30 : PySem.W.nsIn K mainGlobals "_law_some_order" = some (some (.ref f30)))
    (a31 : PySem.W.nsIn K mainGlobals "_shape_of_two" = some (some (.ref f31)))
    (a32 : PySem.W.nsIn K mainGlobals "_piece_shape" = some (some (.ref f32)))
    (a33 : PySem.W.nsIn K mainGlobals "_fitting_shape" = some (some (.ref f33)))
    (a34 : PySem.W.nsIn K mainGlobals "is_index" = some (some (.ref f34)))
    (a35 : PySem.W.nsIn K mainGlobals "sources" = some (some (.ref f35)))
    (a36 : PySem.W.nsIn K mainGlobals "is_step" = some (some (.ref f36)))
    (a37 : PySem.W.nsIn K mainGlobals "made_shape" = some (some (.ref f37)))
    (a39 : PySem.W.nsIn K mainGlobals "_shapes_made" = some (some (.ref f39)))
    (a40 : PySem.W.nsIn K mainGlobals "_are_grids" = some (some (.ref f40)))
    (a41 : PySem.W.nsIn K mainGlobals "_shape_put_in" = some (some (.ref f41)))
    (a43 : PySem.W.nsIn K mainGlobals "fitting_script" = some (some (.ref f43)))
    (a44 : PySem.W.nsIn K mainGlobals "_is_order" = some (some (.ref f44)))
    (a45 : PySem.W.nsIn K mainGlobals "many_grids" = some (some (.ref f45)))
    (a46 : PySem.W.nsIn K mainGlobals "_renumbered_step" = some (some (.ref f46)))
    (a48 : PySem.W.nsIn K mainGlobals "renamed" = some (some (.ref f48)))
    (a49 : PySem.W.nsIn K mainGlobals "check_grid" = some (some (.ref f49)))
    (a50 : PySem.W.nsIn K mainGlobals "shape" = some (some (.ref f50)))
    (a51 : PySem.W.nsIn K mainGlobals "check_cell" = some (some (.ref f51)))
    (a53 : PySem.W.nsIn K mainGlobals "leading" = some (some (.ref f53)))
    (a54 : PySem.W.nsIn K mainGlobals "turned" = some (some (.ref f54)))
    (a55 : PySem.W.nsIn K mainGlobals "moved" = some (some (.ref f55)))
    (a69 : PySem.W.nsIn K mainGlobals "is_nought" = some (some (.ref f69)))
    (a70 : PySem.W.nsIn K mainGlobals "_check_place" = some (some (.ref f70)))
    (a71 : PySem.W.nsIn K mainGlobals "retold" = some (some (.ref f71)))
    (a72 : PySem.W.nsIn K mainGlobals "retold_in" = some (some (.ref f72)))
    (a73 : PySem.W.nsIn K mainGlobals "with_step" = some (some (.ref f73)))
    (a74 : PySem.W.nsIn K mainGlobals "_law_called" = some (some (.ref f74)))
    (a75 : PySem.W.nsIn K mainGlobals "_law_found" = some (some (.ref f75)))
    (a76 : PySem.W.nsIn K mainGlobals "_law_is_fraction" = some (some (.ref f76)))
    (a77 : PySem.W.nsIn K mainGlobals "_law_is_unit" = some (some (.ref f77)))
    (a78 : PySem.W.nsIn K mainGlobals "_law_is_cell" = some (some (.ref f78)))
    (a79 : PySem.W.nsIn K mainGlobals "_law_is_order" = some (some (.ref f79)))
    (a80 : PySem.W.nsIn K mainGlobals "_law_are_refused" = some (some (.ref f80)))
    (a82 : PySem.W.nsIn K mainGlobals "law" = some (some (.ref f82)))
    (gC_GridError : PySem.W.nsIn K mainGlobals "GridError" = some (some (.ref C_GridError)))
    (iC_GridError : PySem.W.findIn K (.ref C_GridError) "__init__" = some (some (.ref f47)))
    (lk_GridError : K.lookup C_GridError = some (excClassObj nm_GridError q_GridError C_GridError N_GridError bs_GridError bm_GridError true sn_GridError sub_GridError ab_GridError col_GridError dd_GridError k0_GridError k1_GridError k2_GridError k3_GridError k5_GridError "ValueError.__new__"))
    (rv_GridError : PySem.HandSPX.refsVE bm_GridError = true)
    (sa_GridError : PySem.W.findIn K (.ref C_GridError) "__setattr__" = some (some (.builtin "object.__setattr__")))
    (eb_GridError : PySem.W.subIn K (.ref C_GridError) (.type "BaseException") = some true)
    (ty_GridError : PySem.W.typeIn K (.ref C_GridError) = some (.type "type"))
    (kp_GridError : PySem.W.keepIn K (.ref C_GridError) = true)
    (gC_NoUnit : PySem.W.nsIn K mainGlobals "NoUnit" = some (some (.ref C_NoUnit)))
    (iC_NoUnit : PySem.W.findIn K (.ref C_NoUnit) "__init__" = some (some (.ref f47)))
    (lk_NoUnit : K.lookup C_NoUnit = some (excClassObj nm_NoUnit q_NoUnit C_NoUnit N_NoUnit bs_NoUnit bm_NoUnit true sn_NoUnit sub_NoUnit ab_NoUnit col_NoUnit dd_NoUnit k0_NoUnit k1_NoUnit k2_NoUnit k3_NoUnit k5_NoUnit "ValueError.__new__"))
    (rv_NoUnit : PySem.HandSPX.refsVE bm_NoUnit = true)
    (sa_NoUnit : PySem.W.findIn K (.ref C_NoUnit) "__setattr__" = some (some (.builtin "object.__setattr__")))
    (eb_NoUnit : PySem.W.subIn K (.ref C_NoUnit) (.type "BaseException") = some true)
    (ty_NoUnit : PySem.W.typeIn K (.ref C_NoUnit) = some (.type "type"))
    (kp_NoUnit : PySem.W.keepIn K (.ref C_NoUnit) = true)
    (gC_BadGrid : PySem.W.nsIn K mainGlobals "BadGrid" = some (some (.ref C_BadGrid)))
    (iC_BadGrid : PySem.W.findIn K (.ref C_BadGrid) "__init__" = some (some (.ref f21)))
    (lk_BadGrid : K.lookup C_BadGrid = some (excClassObj nm_BadGrid q_BadGrid C_BadGrid N_BadGrid bs_BadGrid bm_BadGrid true sn_BadGrid sub_BadGrid ab_BadGrid col_BadGrid dd_BadGrid k0_BadGrid k1_BadGrid k2_BadGrid k3_BadGrid k5_BadGrid "ValueError.__new__"))
    (rv_BadGrid : PySem.HandSPX.refsVE bm_BadGrid = true)
    (sa_BadGrid : PySem.W.findIn K (.ref C_BadGrid) "__setattr__" = some (some (.builtin "object.__setattr__")))
    (eb_BadGrid : PySem.W.subIn K (.ref C_BadGrid) (.type "BaseException") = some true)
    (ty_BadGrid : PySem.W.typeIn K (.ref C_BadGrid) = some (.type "type"))
    (kp_BadGrid : PySem.W.keepIn K (.ref C_BadGrid) = true)
    (gC_NoCell : PySem.W.nsIn K mainGlobals "NoCell" = some (some (.ref C_NoCell)))
    (iC_NoCell : PySem.W.findIn K (.ref C_NoCell) "__init__" = some (some (.ref f47)))
    (lk_NoCell : K.lookup C_NoCell = some (excClassObj nm_NoCell q_NoCell C_NoCell N_NoCell bs_NoCell bm_NoCell true sn_NoCell sub_NoCell ab_NoCell col_NoCell dd_NoCell k0_NoCell k1_NoCell k2_NoCell k3_NoCell k5_NoCell "ValueError.__new__"))
    (rv_NoCell : PySem.HandSPX.refsVE bm_NoCell = true)
    (sa_NoCell : PySem.W.findIn K (.ref C_NoCell) "__setattr__" = some (some (.builtin "object.__setattr__")))
    (eb_NoCell : PySem.W.subIn K (.ref C_NoCell) (.type "BaseException") = some true)
    (ty_NoCell : PySem.W.typeIn K (.ref C_NoCell) = some (.type "type"))
    (kp_NoCell : PySem.W.keepIn K (.ref C_NoCell) = true)
    (gC_BadScript : PySem.W.nsIn K mainGlobals "BadScript" = some (some (.ref C_BadScript)))
    (iC_BadScript : PySem.W.findIn K (.ref C_BadScript) "__init__" = some (some (.ref f38)))
    (lk_BadScript : K.lookup C_BadScript = some (excClassObj nm_BadScript q_BadScript C_BadScript N_BadScript bs_BadScript bm_BadScript true sn_BadScript sub_BadScript ab_BadScript col_BadScript dd_BadScript k0_BadScript k1_BadScript k2_BadScript k3_BadScript k5_BadScript "ValueError.__new__"))
    (rv_BadScript : PySem.HandSPX.refsVE bm_BadScript = true)
    (sa_BadScript : PySem.W.findIn K (.ref C_BadScript) "__setattr__" = some (some (.builtin "object.__setattr__")))
    (eb_BadScript : PySem.W.subIn K (.ref C_BadScript) (.type "BaseException") = some true)
    (ty_BadScript : PySem.W.typeIn K (.ref C_BadScript) = some (.type "type"))
    (kp_BadScript : PySem.W.keepIn K (.ref C_BadScript) = true)
    (gC_NoGrid : PySem.W.nsIn K mainGlobals "NoGrid" = some (some (.ref C_NoGrid)))
    (iC_NoGrid : PySem.W.findIn K (.ref C_NoGrid) "__init__" = some (some (.ref f47)))
    (lk_NoGrid : K.lookup C_NoGrid = some (excClassObj nm_NoGrid q_NoGrid C_NoGrid N_NoGrid bs_NoGrid bm_NoGrid true sn_NoGrid sub_NoGrid ab_NoGrid col_NoGrid dd_NoGrid k0_NoGrid k1_NoGrid k2_NoGrid k3_NoGrid k5_NoGrid "ValueError.__new__"))
    (rv_NoGrid : PySem.HandSPX.refsVE bm_NoGrid = true)
    (sa_NoGrid : PySem.W.findIn K (.ref C_NoGrid) "__setattr__" = some (some (.builtin "object.__setattr__")))
    (eb_NoGrid : PySem.W.subIn K (.ref C_NoGrid) (.type "BaseException") = some true)
    (ty_NoGrid : PySem.W.typeIn K (.ref C_NoGrid) = some (.type "type"))
    (kp_NoGrid : PySem.W.keepIn K (.ref C_NoGrid) = true)
    (gC_NoOrder : PySem.W.nsIn K mainGlobals "NoOrder" = some (some (.ref C_NoOrder)))
    (iC_NoOrder : PySem.W.findIn K (.ref C_NoOrder) "__init__" = some (some (.ref f47)))
    (lk_NoOrder : K.lookup C_NoOrder = some (excClassObj nm_NoOrder q_NoOrder C_NoOrder N_NoOrder bs_NoOrder bm_NoOrder true sn_NoOrder sub_NoOrder ab_NoOrder col_NoOrder dd_NoOrder k0_NoOrder k1_NoOrder k2_NoOrder k3_NoOrder k5_NoOrder "ValueError.__new__"))
    (rv_NoOrder : PySem.HandSPX.refsVE bm_NoOrder = true)
    (sa_NoOrder : PySem.W.findIn K (.ref C_NoOrder) "__setattr__" = some (some (.builtin "object.__setattr__")))
    (eb_NoOrder : PySem.W.subIn K (.ref C_NoOrder) (.type "BaseException") = some true)
    (ty_NoOrder : PySem.W.typeIn K (.ref C_NoOrder) = some (.type "type"))
    (kp_NoOrder : PySem.W.keepIn K (.ref C_NoOrder) = true)
    (gC_Cells : PySem.W.nsIn K mainGlobals "Cells" = some (some (.ref C_Cells)))
    (iC_Cells : PySem.W.findIn K (.ref C_Cells) "__init__" = some (some (.ref f52)))
    (oC_Cells : clB K C_Cells f52 = true)
    (gC_Grid : PySem.W.nsIn K mainGlobals "Grid" = some (some (.ref C_Grid)))
    (iC_Grid : PySem.W.findIn K (.ref C_Grid) "__init__" = some (some (.ref f22)))
    (oC_Grid : clB K C_Grid f22 = true)
    (gC_Script : PySem.W.nsIn K mainGlobals "Script" = some (some (.ref C_Script)))
    (iC_Script : PySem.W.findIn K (.ref C_Script) "__init__" = some (some (.ref f42)))
    (oC_Script : clB K C_Script f42 = true)
    (ii_Grid : isiB K C_Grid = true)
    (eC_Grid : PySem.W.findIn K (.ref C_Grid) "__eq__" = some (some (.ref f81)))
    (qC_Grid : eqB K C_Grid f81 = true)
    (mE_Cells_grids_of : PySem.W.findIn K (.ref C_Cells) "grids_of" = some (some (.ref f67)))
    (mB_Cells_grids_of : meB K C_Cells f67 "grids_of" = true)
    (mE_Cells_grids_to : PySem.W.findIn K (.ref C_Cells) "grids_to" = some (some (.ref f68)))
    (mB_Cells_grids_to : meB K C_Cells f68 "grids_to" = true)
    (mE_Cells_inner : PySem.W.findIn K (.ref C_Cells) "inner" = some (some (.ref f58)))
    (mB_Cells_inner : meB K C_Cells f58 "inner" = true)
    (mE_Cells_powers_of : PySem.W.findIn K (.ref C_Cells) "powers_of" = some (some (.ref f60)))
    (mB_Cells_powers_of : meB K C_Cells f60 "powers_of" = true)
    (mE_Cells_product_of : PySem.W.findIn K (.ref C_Cells) "product_of" = some (some (.ref f56)))
    (mB_Cells_product_of : meB K C_Cells f56 "product_of" = true)
    (mE_Cells_products : PySem.W.findIn K (.ref C_Cells) "products" = some (some (.ref f59)))
    (mB_Cells_products : meB K C_Cells f59 "products" = true)
    (mE_Cells_put_in : PySem.W.findIn K (.ref C_Cells) "put_in" = some (some (.ref f65)))
    (mB_Cells_put_in : meB K C_Cells f65 "put_in" = true)
    (mE_Cells_rows_made : PySem.W.findIn K (.ref C_Cells) "rows_made" = some (some (.ref f64)))
    (mB_Cells_rows_made : meB K C_Cells f64 "rows_made" = true)
    (mE_Cells_rows_put_in : PySem.W.findIn K (.ref C_Cells) "rows_put_in" = some (some (.ref f66)))
    (mB_Cells_rows_put_in : meB K C_Cells f66 "rows_put_in" = true)
    (mE_Cells_stars : PySem.W.findIn K (.ref C_Cells) "stars" = some (some (.ref f62)))
    (mB_Cells_stars : meB K C_Cells f62 "stars" = true)
    (mE_Cells_sum_of : PySem.W.findIn K (.ref C_Cells) "sum_of" = some (some (.ref f57)))
    (mB_Cells_sum_of : meB K C_Cells f57 "sum_of" = true)
    (mE_Cells_sums : PySem.W.findIn K (.ref C_Cells) "sums" = some (some (.ref f63)))
    (mB_Cells_sums : meB K C_Cells f63 "sums" = true)
    (mE_Cells_with_paths : PySem.W.findIn K (.ref C_Cells) "with_paths" = some (some (.ref f61)))
    (mB_Cells_with_paths : meB K C_Cells f61 "with_paths" = true)
    (tI_BadGrid___init__ : PySem.W.typeIn K (.ref f21) = some (.type "function"))
    (tI_BadScript___init__ : PySem.W.typeIn K (.ref f38) = some (.type "function"))
    (tI_GridError___init__ : PySem.W.typeIn K (.ref f47) = some (.type "function"))
    (nA_Cells_nought : PySem.W.findIn K (.ref C_Cells) "nought" = some none)
    (nA_Grid_bases : PySem.W.findIn K (.ref C_Grid) "bases" = some none)
    (nA_Grid_rows : PySem.W.findIn K (.ref C_Grid) "rows" = some none)
    (nA_Script_grids : PySem.W.findIn K (.ref C_Script) "grids" = some none)
    (nA_Script_steps : PySem.W.findIn K (.ref C_Script) "steps" = some none)
    (nA_Script_shapes : PySem.W.findIn K (.ref C_Script) "shapes" = some none)
    (xf_BadScript : xfB K C_BadScript = true)
    (nx_BadGrid_part : PySem.W.findIn K (.ref C_BadGrid) "part" = some none)
    (nx_BadScript_part : PySem.W.findIn K (.ref C_BadScript) "part" = some none)
    (em_GridError_NoGrid : emB K C_GridError C_NoGrid false = true)
    (em_GridError_NoCell : emB K C_GridError C_NoCell false = true)
    (em_GridError_NoUnit : emB K C_GridError C_NoUnit false = true)
    (em_GridError_NoOrder : emB K C_GridError C_NoOrder false = true)
    (em_GridError_BadScript : emB K C_GridError C_BadScript false = true)
    (em_GridError_GridError : emB K C_GridError C_GridError true = true)
    (em_NoUnit_NoGrid : emB K C_NoUnit C_NoGrid false = true)
    (em_NoUnit_NoCell : emB K C_NoUnit C_NoCell false = true)
    (em_NoUnit_NoUnit : emB K C_NoUnit C_NoUnit true = true)
    (em_NoUnit_NoOrder : emB K C_NoUnit C_NoOrder false = true)
    (em_NoUnit_BadScript : emB K C_NoUnit C_BadScript false = true)
    (em_NoUnit_GridError : emB K C_NoUnit C_GridError true = true)
    (em_BadGrid_NoGrid : emB K C_BadGrid C_NoGrid false = true)
    (em_BadGrid_NoCell : emB K C_BadGrid C_NoCell false = true)
    (em_BadGrid_NoUnit : emB K C_BadGrid C_NoUnit false = true)
    (em_BadGrid_NoOrder : emB K C_BadGrid C_NoOrder false = true)
    (em_BadGrid_BadScript : emB K C_BadGrid C_BadScript false = true)
    (em_BadGrid_GridError : emB K C_BadGrid C_GridError true = true)
    (em_NoCell_NoGrid : emB K C_NoCell C_NoGrid false = true)
    (em_NoCell_NoCell : emB K C_NoCell C_NoCell true = true)
    (em_NoCell_NoUnit : emB K C_NoCell C_NoUnit false = true)
    (em_NoCell_NoOrder : emB K C_NoCell C_NoOrder false = true)
    (em_NoCell_BadScript : emB K C_NoCell C_BadScript false = true)
    (em_NoCell_GridError : emB K C_NoCell C_GridError true = true)
    (em_BadScript_NoGrid : emB K C_BadScript C_NoGrid false = true)
    (em_BadScript_NoCell : emB K C_BadScript C_NoCell false = true)
    (em_BadScript_NoUnit : emB K C_BadScript C_NoUnit false = true)
    (em_BadScript_NoOrder : emB K C_BadScript C_NoOrder false = true)
    (em_BadScript_BadScript : emB K C_BadScript C_BadScript true = true)
    (em_BadScript_GridError : emB K C_BadScript C_GridError true = true)
    (em_NoGrid_NoGrid : emB K C_NoGrid C_NoGrid true = true)
    (em_NoGrid_NoCell : emB K C_NoGrid C_NoCell false = true)
    (em_NoGrid_NoUnit : emB K C_NoGrid C_NoUnit false = true)
    (em_NoGrid_NoOrder : emB K C_NoGrid C_NoOrder false = true)
    (em_NoGrid_BadScript : emB K C_NoGrid C_BadScript false = true)
    (em_NoGrid_GridError : emB K C_NoGrid C_GridError true = true)
    (em_NoOrder_NoGrid : emB K C_NoOrder C_NoGrid false = true)
    (em_NoOrder_NoCell : emB K C_NoOrder C_NoCell false = true)
    (em_NoOrder_NoUnit : emB K C_NoOrder C_NoUnit false = true)
    (em_NoOrder_NoOrder : emB K C_NoOrder C_NoOrder true = true)
    (em_NoOrder_BadScript : emB K C_NoOrder C_BadScript false = true)
    (em_NoOrder_GridError : emB K C_NoOrder C_GridError true = true)
    (v_VE : PySem.W.findCls K (.type "ValueError") (.type "type") "__init__" = some (.val (.builtin "ValueError.__init__")))
    (l0 : K.lookup f0 = some ⟨oc0, od0, .func (PySem.W.fnOf "_law_state" "_law_state" (defArgs s__law_state) (defBody s__law_state) (defScope s__law_state) .none kV0 dc0 pm0 an0 cd0 ct0), sl0⟩)
    (c0 : PySem.W.codeIn K cd0 "_law_state" = true)
    (k0 : PySem.W.keepIn K (.ref f0) = true)
    (l1 : K.lookup f1 = some ⟨oc1, od1, .func (PySem.W.fnOf "_law_mixed" "_law_mixed" (defArgs s__law_mixed) (defBody s__law_mixed) (defScope s__law_mixed) .none kV1 dc1 pm1 an1 cd1 ct1), sl1⟩)
    (c1 : PySem.W.codeIn K cd1 "_law_mixed" = true)
    (k1 : PySem.W.keepIn K (.ref f1) = true)
    (l2 : K.lookup f2 = some ⟨oc2, od2, .func (PySem.W.fnOf "_law_draw" "_law_draw" (defArgs s__law_draw) (defBody s__law_draw) (defScope s__law_draw) .none kV2 dc2 pm2 an2 cd2 ct2), sl2⟩)
    (c2 : PySem.W.codeIn K cd2 "_law_draw" = true)
    (k2 : PySem.W.keepIn K (.ref f2) = true)
    (l3 : K.lookup f3 = some ⟨oc3, od3, .func (PySem.W.fnOf "_law_fit" "_law_fit" (defArgs s__law_fit) (defBody s__law_fit) (defScope s__law_fit) .none kV3 dc3 pm3 an3 cd3 ct3), sl3⟩)
    (c3 : PySem.W.codeIn K cd3 "_law_fit" = true)
    (k3 : PySem.W.keepIn K (.ref f3) = true)
    (l4 : K.lookup f4 = some ⟨oc4, od4, .func (PySem.W.fnOf "_law_is_integer" "_law_is_integer" (defArgs s__law_is_integer) (defBody s__law_is_integer) (defScope s__law_is_integer) .none kV4 dc4 pm4 an4 cd4 ct4), sl4⟩)
    (c4 : PySem.W.codeIn K cd4 "_law_is_integer" = true)
    (k4 : PySem.W.keepIn K (.ref f4) = true)
    (l5 : K.lookup f5 = some ⟨oc5, od5, .func (PySem.W.fnOf "_law_made" "_law_made" (defArgs s__law_made) (defBody s__law_made) (defScope s__law_made) .none kV5 dc5 pm5 an5 cd5 ct5), sl5⟩)
    (c5 : PySem.W.codeIn K cd5 "_law_made" = true)
    (k5 : PySem.W.keepIn K (.ref f5) = true)
    (l6 : K.lookup f6 = some ⟨oc6, od6, .func (PySem.W.fnOf "_law_step" "_law_step" (defArgs s__law_step) (defBody s__law_step) (defScope s__law_step) .none kV6 dc6 pm6 an6 cd6 ct6), sl6⟩)
    (c6 : PySem.W.codeIn K cd6 "_law_step" = true)
    (k6 : PySem.W.keepIn K (.ref f6) = true)
    (l7 : K.lookup f7 = some ⟨oc7, od7, .func (PySem.W.fnOf "_law_steps" "_law_steps" (defArgs s__law_steps) (defBody s__law_steps) (defScope s__law_steps) .none kV7 dc7 pm7 an7 cd7 ct7), sl7⟩)
    (c7 : PySem.W.codeIn K cd7 "_law_steps" = true)
    (k7 : PySem.W.keepIn K (.ref f7) = true)
    (l8 : K.lookup f8 = some ⟨oc8, od8, .func (PySem.W.fnOf "_law_low" "_law_low" (defArgs s__law_low) (defBody s__law_low) (defScope s__law_low) .none kV8 dc8 pm8 an8 cd8 ct8), sl8⟩)
    (c8 : PySem.W.codeIn K cd8 "_law_low" = true)
    (k8 : PySem.W.keepIn K (.ref f8) = true)
    (l9 : K.lookup f9 = some ⟨oc9, od9, .func (PySem.W.fnOf "_law_exponent" "_law_exponent" (defArgs s__law_exponent) (defBody s__law_exponent) (defScope s__law_exponent) .none kV9 dc9 pm9 an9 cd9 ct9), sl9⟩)
    (c9 : PySem.W.codeIn K cd9 "_law_exponent" = true)
    (k9 : PySem.W.keepIn K (.ref f9) = true)
    (l10 : K.lookup f10 = some ⟨oc10, od10, .func (PySem.W.fnOf "_law_unit" "_law_unit" (defArgs s__law_unit) (defBody s__law_unit) (defScope s__law_unit) .none kV10 dc10 pm10 an10 cd10 ct10), sl10⟩)
    (c10 : PySem.W.codeIn K cd10 "_law_unit" = true)
    (k10 : PySem.W.keepIn K (.ref f10) = true)
    (l11 : K.lookup f11 = some ⟨oc11, od11, .func (PySem.W.fnOf "_law_cell" "_law_cell" (defArgs s__law_cell) (defBody s__law_cell) (defScope s__law_cell) .none kV11 dc11 pm11 an11 cd11 ct11), sl11⟩)
    (c11 : PySem.W.codeIn K cd11 "_law_cell" = true)
    (k11 : PySem.W.keepIn K (.ref f11) = true)
    (l12 : K.lookup f12 = some ⟨oc12, od12, .func (PySem.W.fnOf "_law_rows" "_law_rows" (defArgs s__law_rows) (defBody s__law_rows) (defScope s__law_rows) .none kV12 dc12 pm12 an12 cd12 ct12), sl12⟩)
    (c12 : PySem.W.codeIn K cd12 "_law_rows" = true)
    (k12 : PySem.W.keepIn K (.ref f12) = true)
    (l13 : K.lookup f13 = some ⟨oc13, od13, .func (PySem.W.fnOf "_has_grid_length" "_has_grid_length" (defArgs s__has_grid_length) (defBody s__has_grid_length) (defScope s__has_grid_length) .none kV13 dc13 pm13 an13 cd13 ct13), sl13⟩)
    (c13 : PySem.W.codeIn K cd13 "_has_grid_length" = true)
    (k13 : PySem.W.keepIn K (.ref f13) = true)
    (l14 : K.lookup f14 = some ⟨oc14, od14, .func (PySem.W.fnOf "is_whole" "is_whole" (defArgs s_is_whole) (defBody s_is_whole) (defScope s_is_whole) .none kV14 dc14 pm14 an14 cd14 ct14), sl14⟩)
    (c14 : PySem.W.codeIn K cd14 "is_whole" = true)
    (k14 : PySem.W.keepIn K (.ref f14) = true)
    (l15 : K.lookup f15 = some ⟨oc15, od15, .func (PySem.W.fnOf "is_pair" "is_pair" (defArgs s_is_pair) (defBody s_is_pair) (defScope s_is_pair) .none kV15 dc15 pm15 an15 cd15 ct15), sl15⟩)
    (c15 : PySem.W.codeIn K cd15 "is_pair" = true)
    (k15 : PySem.W.keepIn K (.ref f15) = true)
    (l16 : K.lookup f16 = some ⟨oc16, od16, .func (PySem.W.fnOf "is_fraction" "is_fraction" (defArgs s_is_fraction) (defBody s_is_fraction) (defScope s_is_fraction) .none kV16 dc16 pm16 an16 cd16 ct16), sl16⟩)
    (c16 : PySem.W.codeIn K cd16 "is_fraction" = true)
    (k16 : PySem.W.keepIn K (.ref f16) = true)
    (l17 : K.lookup f17 = some ⟨oc17, od17, .func (PySem.W.fnOf "is_any_unit" "is_any_unit" (defArgs s_is_any_unit) (defBody s_is_any_unit) (defScope s_is_any_unit) .none kV17 dc17 pm17 an17 cd17 ct17), sl17⟩)
    (c17 : PySem.W.codeIn K cd17 "is_any_unit" = true)
    (k17 : PySem.W.keepIn K (.ref f17) = true)
    (l18 : K.lookup f18 = some ⟨oc18, od18, .func (PySem.W.fnOf "is_unit" "is_unit" (defArgs s_is_unit) (defBody s_is_unit) (defScope s_is_unit) .none kV18 dc18 pm18 an18 cd18 ct18), sl18⟩)
    (c18 : PySem.W.codeIn K cd18 "is_unit" = true)
    (k18 : PySem.W.keepIn K (.ref f18) = true)
    (l19 : K.lookup f19 = some ⟨oc19, od19, .func (PySem.W.fnOf "is_cell" "is_cell" (defArgs s_is_cell) (defBody s_is_cell) (defScope s_is_cell) .none kV19 dc19 pm19 an19 cd19 ct19), sl19⟩)
    (c19 : PySem.W.codeIn K cd19 "is_cell" = true)
    (k19 : PySem.W.keepIn K (.ref f19) = true)
    (l20 : K.lookup f20 = some ⟨oc20, od20, .func (PySem.W.fnOf "_wrong_part" "_wrong_part" (defArgs s__wrong_part) (defBody s__wrong_part) (defScope s__wrong_part) .none kV20 dc20 pm20 an20 cd20 ct20), sl20⟩)
    (c20 : PySem.W.codeIn K cd20 "_wrong_part" = true)
    (k20 : PySem.W.keepIn K (.ref f20) = true)
    (l21 : K.lookup f21 = some ⟨oc21, od21, .func (PySem.W.fnOf "__init__" "BadGrid.__init__" (defArgs s_BadGrid___init__) (defBody s_BadGrid___init__) (defScope s_BadGrid___init__) .none kV21 dc21 pm21 an21 cd21 ct21), sl21⟩)
    (c21 : PySem.W.codeIn K cd21 "BadGrid.__init__" = true)
    (k21 : PySem.W.keepIn K (.ref f21) = true)
    (l22 : K.lookup f22 = some ⟨oc22, od22, .func (PySem.W.fnOf "__init__" "Grid.__init__" (defArgs s_Grid___init__) (defBody s_Grid___init__) (defScope s_Grid___init__) .none kV22 dc22 pm22 an22 cd22 ct22), sl22⟩)
    (c22 : PySem.W.codeIn K cd22 "Grid.__init__" = true)
    (k22 : PySem.W.keepIn K (.ref f22) = true)
    (l23 : K.lookup f23 = some ⟨oc23, od23, .func (PySem.W.fnOf "_law_grid" "_law_grid" (defArgs s__law_grid) (defBody s__law_grid) (defScope s__law_grid) .none kV23 dc23 pm23 an23 cd23 ct23), sl23⟩)
    (c23 : PySem.W.codeIn K cd23 "_law_grid" = true)
    (k23 : PySem.W.keepIn K (.ref f23) = true)
    (l24 : K.lookup f24 = some ⟨oc24, od24, .func (PySem.W.fnOf "_law_odd" "_law_odd" (defArgs s__law_odd) (defBody s__law_odd) (defScope s__law_odd) .none kV24 dc24 pm24 an24 cd24 ct24), sl24⟩)
    (c24 : PySem.W.codeIn K cd24 "_law_odd" = true)
    (k24 : PySem.W.keepIn K (.ref f24) = true)
    (l25 : K.lookup f25 = some ⟨oc25, od25, .func (PySem.W.fnOf "_law_place" "_law_place" (defArgs s__law_place) (defBody s__law_place) (defScope s__law_place) .none kV25 dc25 pm25 an25 cd25 ct25), sl25⟩)
    (c25 : PySem.W.codeIn K cd25 "_law_place" = true)
    (k25 : PySem.W.keepIn K (.ref f25) = true)
    (l26 : K.lookup f26 = some ⟨oc26, od26, .func (PySem.W.fnOf "_law_thing" "_law_thing" (defArgs s__law_thing) (defBody s__law_thing) (defScope s__law_thing) .none kV26 dc26 pm26 an26 cd26 ct26), sl26⟩)
    (c26 : PySem.W.codeIn K cd26 "_law_thing" = true)
    (k26 : PySem.W.keepIn K (.ref f26) = true)
    (l27 : K.lookup f27 = some ⟨oc27, od27, .func (PySem.W.fnOf "_law_is_place" "_law_is_place" (defArgs s__law_is_place) (defBody s__law_is_place) (defScope s__law_is_place) .none kV27 dc27 pm27 an27 cd27 ct27), sl27⟩)
    (c27 : PySem.W.codeIn K cd27 "_law_is_place" = true)
    (k27 : PySem.W.keepIn K (.ref f27) = true)
    (l28 : K.lookup f28 = some ⟨oc28, od28, .func (PySem.W.fnOf "_law_spot" "_law_spot" (defArgs s__law_spot) (defBody s__law_spot) (defScope s__law_spot) .none kV28 dc28 pm28 an28 cd28 ct28), sl28⟩)
    (c28 : PySem.W.codeIn K cd28 "_law_spot" = true)
    (k28 : PySem.W.keepIn K (.ref f28) = true)
    (l29 : K.lookup f29 = some ⟨oc29, od29, .func (PySem.W.fnOf "_law_some_step" "_law_some_step" (defArgs s__law_some_step) (defBody s__law_some_step) (defScope s__law_some_step) .none kV29 dc29 pm29 an29 cd29 ct29), sl29⟩)
    (c29 : PySem.W.codeIn K cd29 "_law_some_step" = true)
    (k29 : PySem.W.keepIn K (.ref f29) = true)
    (l30 : K.lookup f30 = some ⟨oc30, od30, .func (PySem.W.fnOf "_law_some_order" "_law_some_order" (defArgs s__law_some_order) (defBody s__law_some_order) (defScope s__law_some_order) .none kV30 dc30 pm30 an30 cd30 ct30), sl30⟩)
    (c30 : PySem.W.codeIn K cd30 "_law_some_order" = true)
    (k30 : PySem.W.keepIn K (.ref f30) = true)
    (l31 : K.lookup f31 = some ⟨oc31, od31, .func (PySem.W.fnOf "_shape_of_two" "_shape_of_two" (defArgs s__shape_of_two) (defBody s__shape_of_two) (defScope s__shape_of_two) .none kV31 dc31 pm31 an31 cd31 ct31), sl31⟩)
    (c31 : PySem.W.codeIn K cd31 "_shape_of_two" = true)
    (k31 : PySem.W.keepIn K (.ref f31) = true)
    (l32 : K.lookup f32 = some ⟨oc32, od32, .func (PySem.W.fnOf "_piece_shape" "_piece_shape" (defArgs s__piece_shape) (defBody s__piece_shape) (defScope s__piece_shape) .none kV32 dc32 pm32 an32 cd32 ct32), sl32⟩)
    (c32 : PySem.W.codeIn K cd32 "_piece_shape" = true)
    (k32 : PySem.W.keepIn K (.ref f32) = true)
    (l33 : K.lookup f33 = some ⟨oc33, od33, .func (PySem.W.fnOf "_fitting_shape" "_fitting_shape" (defArgs s__fitting_shape) (defBody s__fitting_shape) (defScope s__fitting_shape) .none kV33 dc33 pm33 an33 cd33 ct33), sl33⟩)
    (c33 : PySem.W.codeIn K cd33 "_fitting_shape" = true)
    (k33 : PySem.W.keepIn K (.ref f33) = true)
    (l34 : K.lookup f34 = some ⟨oc34, od34, .func (PySem.W.fnOf "is_index" "is_index" (defArgs s_is_index) (defBody s_is_index) (defScope s_is_index) .none kV34 dc34 pm34 an34 cd34 ct34), sl34⟩)
    (c34 : PySem.W.codeIn K cd34 "is_index" = true)
    (k34 : PySem.W.keepIn K (.ref f34) = true)
    (l35 : K.lookup f35 = some ⟨oc35, od35, .func (PySem.W.fnOf "sources" "sources" (defArgs s_sources) (defBody s_sources) (defScope s_sources) .none kV35 dc35 pm35 an35 cd35 ct35), sl35⟩)
    (c35 : PySem.W.codeIn K cd35 "sources" = true)
    (k35 : PySem.W.keepIn K (.ref f35) = true)
    (l36 : K.lookup f36 = some ⟨oc36, od36, .func (PySem.W.fnOf "is_step" "is_step" (defArgs s_is_step) (defBody s_is_step) (defScope s_is_step) .none kV36 dc36 pm36 an36 cd36 ct36), sl36⟩)
    (c36 : PySem.W.codeIn K cd36 "is_step" = true)
    (k36 : PySem.W.keepIn K (.ref f36) = true)
    (l37 : K.lookup f37 = some ⟨oc37, od37, .func (PySem.W.fnOf "made_shape" "made_shape" (defArgs s_made_shape) (defBody s_made_shape) (defScope s_made_shape) .none kV37 dc37 pm37 an37 cd37 ct37), sl37⟩)
    (c37 : PySem.W.codeIn K cd37 "made_shape" = true)
    (k37 : PySem.W.keepIn K (.ref f37) = true)
    (l38 : K.lookup f38 = some ⟨oc38, od38, .func (PySem.W.fnOf "__init__" "BadScript.__init__" (defArgs s_BadScript___init__) (defBody s_BadScript___init__) (defScope s_BadScript___init__) .none kV38 dc38 pm38 an38 cd38 ct38), sl38⟩)
    (c38 : PySem.W.codeIn K cd38 "BadScript.__init__" = true)
    (k38 : PySem.W.keepIn K (.ref f38) = true)
    (l39 : K.lookup f39 = some ⟨oc39, od39, .func (PySem.W.fnOf "_shapes_made" "_shapes_made" (defArgs s__shapes_made) (defBody s__shapes_made) (defScope s__shapes_made) .none kV39 dc39 pm39 an39 cd39 ct39), sl39⟩)
    (c39 : PySem.W.codeIn K cd39 "_shapes_made" = true)
    (k39 : PySem.W.keepIn K (.ref f39) = true)
    (l40 : K.lookup f40 = some ⟨oc40, od40, .func (PySem.W.fnOf "_are_grids" "_are_grids" (defArgs s__are_grids) (defBody s__are_grids) (defScope s__are_grids) .none kV40 dc40 pm40 an40 cd40 ct40), sl40⟩)
    (c40 : PySem.W.codeIn K cd40 "_are_grids" = true)
    (k40 : PySem.W.keepIn K (.ref f40) = true)
    (l41 : K.lookup f41 = some ⟨oc41, od41, .func (PySem.W.fnOf "_shape_put_in" "_shape_put_in" (defArgs s__shape_put_in) (defBody s__shape_put_in) (defScope s__shape_put_in) .none kV41 dc41 pm41 an41 cd41 ct41), sl41⟩)
    (c41 : PySem.W.codeIn K cd41 "_shape_put_in" = true)
    (k41 : PySem.W.keepIn K (.ref f41) = true)
    (l42 : K.lookup f42 = some ⟨oc42, od42, .func (PySem.W.fnOf "__init__" "Script.__init__" (defArgs s_Script___init__) (defBody s_Script___init__) (defScope s_Script___init__) .none kV42 dc42 pm42 an42 cd42 ct42), sl42⟩)
    (c42 : PySem.W.codeIn K cd42 "Script.__init__" = true)
    (k42 : PySem.W.keepIn K (.ref f42) = true)
    (l43 : K.lookup f43 = some ⟨oc43, od43, .func (PySem.W.fnOf "fitting_script" "fitting_script" (defArgs s_fitting_script) (defBody s_fitting_script) (defScope s_fitting_script) .none kV43 dc43 pm43 an43 cd43 ct43), sl43⟩)
    (c43 : PySem.W.codeIn K cd43 "fitting_script" = true)
    (k43 : PySem.W.keepIn K (.ref f43) = true)
    (l44 : K.lookup f44 = some ⟨oc44, od44, .func (PySem.W.fnOf "_is_order" "_is_order" (defArgs s__is_order) (defBody s__is_order) (defScope s__is_order) .none kV44 dc44 pm44 an44 cd44 ct44), sl44⟩)
    (c44 : PySem.W.codeIn K cd44 "_is_order" = true)
    (k44 : PySem.W.keepIn K (.ref f44) = true)
    (l45 : K.lookup f45 = some ⟨oc45, od45, .func (PySem.W.fnOf "many_grids" "many_grids" (defArgs s_many_grids) (defBody s_many_grids) (defScope s_many_grids) .none kV45 dc45 pm45 an45 cd45 ct45), sl45⟩)
    (c45 : PySem.W.codeIn K cd45 "many_grids" = true)
    (k45 : PySem.W.keepIn K (.ref f45) = true)
    (l46 : K.lookup f46 = some ⟨oc46, od46, .func (PySem.W.fnOf "_renumbered_step" "_renumbered_step" (defArgs s__renumbered_step) (defBody s__renumbered_step) (defScope s__renumbered_step) .none kV46 dc46 pm46 an46 cd46 ct46), sl46⟩)
    (c46 : PySem.W.codeIn K cd46 "_renumbered_step" = true)
    (k46 : PySem.W.keepIn K (.ref f46) = true)
    (l47 : K.lookup f47 = some ⟨oc47, od47, .func (PySem.W.fnOf "__init__" "GridError.__init__" (defArgs s_GridError___init__) (defBody s_GridError___init__) (defScope s_GridError___init__) .none kV47 dc47 pm47 an47 cd47 ct47), sl47⟩)
    (c47 : PySem.W.codeIn K cd47 "GridError.__init__" = true)
    (k47 : PySem.W.keepIn K (.ref f47) = true)
    (l48 : K.lookup f48 = some ⟨oc48, od48, .func (PySem.W.fnOf "renamed" "renamed" (defArgs s_renamed) (defBody s_renamed) (defScope s_renamed) .none kV48 dc48 pm48 an48 cd48 ct48), sl48⟩)
    (c48 : PySem.W.codeIn K cd48 "renamed" = true)
    (k48 : PySem.W.keepIn K (.ref f48) = true)
    (l49 : K.lookup f49 = some ⟨oc49, od49, .func (PySem.W.fnOf "check_grid" "check_grid" (defArgs s_check_grid) (defBody s_check_grid) (defScope s_check_grid) .none kV49 dc49 pm49 an49 cd49 ct49), sl49⟩)
    (c49 : PySem.W.codeIn K cd49 "check_grid" = true)
    (k49 : PySem.W.keepIn K (.ref f49) = true)
    (l50 : K.lookup f50 = some ⟨oc50, od50, .func (PySem.W.fnOf "shape" "shape" (defArgs s_shape) (defBody s_shape) (defScope s_shape) .none kV50 dc50 pm50 an50 cd50 ct50), sl50⟩)
    (c50 : PySem.W.codeIn K cd50 "shape" = true)
    (k50 : PySem.W.keepIn K (.ref f50) = true)
    (l51 : K.lookup f51 = some ⟨oc51, od51, .func (PySem.W.fnOf "check_cell" "check_cell" (defArgs s_check_cell) (defBody s_check_cell) (defScope s_check_cell) .none kV51 dc51 pm51 an51 cd51 ct51), sl51⟩)
    (c51 : PySem.W.codeIn K cd51 "check_cell" = true)
    (k51 : PySem.W.keepIn K (.ref f51) = true)
    (l52 : K.lookup f52 = some ⟨oc52, od52, .func (PySem.W.fnOf "__init__" "Cells.__init__" (defArgs s_Cells___init__) (defBody s_Cells___init__) (defScope s_Cells___init__) .none kV52 dc52 pm52 an52 cd52 ct52), sl52⟩)
    (c52 : PySem.W.codeIn K cd52 "Cells.__init__" = true)
    (k52 : PySem.W.keepIn K (.ref f52) = true)
    (l53 : K.lookup f53 = some ⟨oc53, od53, .func (PySem.W.fnOf "leading" "leading" (defArgs s_leading) (defBody s_leading) (defScope s_leading) .none kV53 dc53 pm53 an53 cd53 ct53), sl53⟩)
    (c53 : PySem.W.codeIn K cd53 "leading" = true)
    (k53 : PySem.W.keepIn K (.ref f53) = true)
    (l54 : K.lookup f54 = some ⟨oc54, od54, .func (PySem.W.fnOf "turned" "turned" (defArgs s_turned) (defBody s_turned) (defScope s_turned) .none kV54 dc54 pm54 an54 cd54 ct54), sl54⟩)
    (c54 : PySem.W.codeIn K cd54 "turned" = true)
    (k54 : PySem.W.keepIn K (.ref f54) = true)
    (l55 : K.lookup f55 = some ⟨oc55, od55, .func (PySem.W.fnOf "moved" "moved" (defArgs s_moved) (defBody s_moved) (defScope s_moved) .none kV55 dc55 pm55 an55 cd55 ct55), sl55⟩)
    (c55 : PySem.W.codeIn K cd55 "moved" = true)
    (k55 : PySem.W.keepIn K (.ref f55) = true)
    (l56 : K.lookup f56 = some ⟨oc56, od56, .func (PySem.W.fnOf "product_of" "Cells.product_of" (defArgs s_Cells_product_of) (defBody s_Cells_product_of) (defScope s_Cells_product_of) .none kV56 dc56 pm56 an56 cd56 ct56), sl56⟩)
    (c56 : PySem.W.codeIn K cd56 "Cells.product_of" = true)
    (k56 : PySem.W.keepIn K (.ref f56) = true)
    (l57 : K.lookup f57 = some ⟨oc57, od57, .func (PySem.W.fnOf "sum_of" "Cells.sum_of" (defArgs s_Cells_sum_of) (defBody s_Cells_sum_of) (defScope s_Cells_sum_of) .none kV57 dc57 pm57 an57 cd57 ct57), sl57⟩)
    (c57 : PySem.W.codeIn K cd57 "Cells.sum_of" = true)
    (k57 : PySem.W.keepIn K (.ref f57) = true)
    (l58 : K.lookup f58 = some ⟨oc58, od58, .func (PySem.W.fnOf "inner" "Cells.inner" (defArgs s_Cells_inner) (defBody s_Cells_inner) (defScope s_Cells_inner) .none kV58 dc58 pm58 an58 cd58 ct58), sl58⟩)
    (c58 : PySem.W.codeIn K cd58 "Cells.inner" = true)
    (k58 : PySem.W.keepIn K (.ref f58) = true)
    (l59 : K.lookup f59 = some ⟨oc59, od59, .func (PySem.W.fnOf "products" "Cells.products" (defArgs s_Cells_products) (defBody s_Cells_products) (defScope s_Cells_products) .none kV59 dc59 pm59 an59 cd59 ct59), sl59⟩)
    (c59 : PySem.W.codeIn K cd59 "Cells.products" = true)
    (k59 : PySem.W.keepIn K (.ref f59) = true)
    (l60 : K.lookup f60 = some ⟨oc60, od60, .func (PySem.W.fnOf "powers_of" "Cells.powers_of" (defArgs s_Cells_powers_of) (defBody s_Cells_powers_of) (defScope s_Cells_powers_of) .none kV60 dc60 pm60 an60 cd60 ct60), sl60⟩)
    (c60 : PySem.W.codeIn K cd60 "Cells.powers_of" = true)
    (k60 : PySem.W.keepIn K (.ref f60) = true)
    (l61 : K.lookup f61 = some ⟨oc61, od61, .func (PySem.W.fnOf "with_paths" "Cells.with_paths" (defArgs s_Cells_with_paths) (defBody s_Cells_with_paths) (defScope s_Cells_with_paths) .none kV61 dc61 pm61 an61 cd61 ct61), sl61⟩)
    (c61 : PySem.W.codeIn K cd61 "Cells.with_paths" = true)
    (k61 : PySem.W.keepIn K (.ref f61) = true)
    (l62 : K.lookup f62 = some ⟨oc62, od62, .func (PySem.W.fnOf "stars" "Cells.stars" (defArgs s_Cells_stars) (defBody s_Cells_stars) (defScope s_Cells_stars) .none kV62 dc62 pm62 an62 cd62 ct62), sl62⟩)
    (c62 : PySem.W.codeIn K cd62 "Cells.stars" = true)
    (k62 : PySem.W.keepIn K (.ref f62) = true)
    (l63 : K.lookup f63 = some ⟨oc63, od63, .func (PySem.W.fnOf "sums" "Cells.sums" (defArgs s_Cells_sums) (defBody s_Cells_sums) (defScope s_Cells_sums) .none kV63 dc63 pm63 an63 cd63 ct63), sl63⟩)
    (c63 : PySem.W.codeIn K cd63 "Cells.sums" = true)
    (k63 : PySem.W.keepIn K (.ref f63) = true)
    (l64 : K.lookup f64 = some ⟨oc64, od64, .func (PySem.W.fnOf "rows_made" "Cells.rows_made" (defArgs s_Cells_rows_made) (defBody s_Cells_rows_made) (defScope s_Cells_rows_made) .none kV64 dc64 pm64 an64 cd64 ct64), sl64⟩)
    (c64 : PySem.W.codeIn K cd64 "Cells.rows_made" = true)
    (k64 : PySem.W.keepIn K (.ref f64) = true)
    (l65 : K.lookup f65 = some ⟨oc65, od65, .func (PySem.W.fnOf "put_in" "Cells.put_in" (defArgs s_Cells_put_in) (defBody s_Cells_put_in) (defScope s_Cells_put_in) .none kV65 dc65 pm65 an65 cd65 ct65), sl65⟩)
    (c65 : PySem.W.codeIn K cd65 "Cells.put_in" = true)
    (k65 : PySem.W.keepIn K (.ref f65) = true)
    (l66 : K.lookup f66 = some ⟨oc66, od66, .func (PySem.W.fnOf "rows_put_in" "Cells.rows_put_in" (defArgs s_Cells_rows_put_in) (defBody s_Cells_rows_put_in) (defScope s_Cells_rows_put_in) .none kV66 dc66 pm66 an66 cd66 ct66), sl66⟩)
    (c66 : PySem.W.codeIn K cd66 "Cells.rows_put_in" = true)
    (k66 : PySem.W.keepIn K (.ref f66) = true)
    (l67 : K.lookup f67 = some ⟨oc67, od67, .func (PySem.W.fnOf "grids_of" "Cells.grids_of" (defArgs s_Cells_grids_of) (defBody s_Cells_grids_of) (defScope s_Cells_grids_of) .none kV67 dc67 pm67 an67 cd67 ct67), sl67⟩)
    (c67 : PySem.W.codeIn K cd67 "Cells.grids_of" = true)
    (k67 : PySem.W.keepIn K (.ref f67) = true)
    (l68 : K.lookup f68 = some ⟨oc68, od68, .func (PySem.W.fnOf "grids_to" "Cells.grids_to" (defArgs s_Cells_grids_to) (defBody s_Cells_grids_to) (defScope s_Cells_grids_to) .none kV68 dc68 pm68 an68 cd68 ct68), sl68⟩)
    (c68 : PySem.W.codeIn K cd68 "Cells.grids_to" = true)
    (k68 : PySem.W.keepIn K (.ref f68) = true)
    (l69 : K.lookup f69 = some ⟨oc69, od69, .func (PySem.W.fnOf "is_nought" "is_nought" (defArgs s_is_nought) (defBody s_is_nought) (defScope s_is_nought) .none kV69 dc69 pm69 an69 cd69 ct69), sl69⟩)
    (c69 : PySem.W.codeIn K cd69 "is_nought" = true)
    (k69 : PySem.W.keepIn K (.ref f69) = true)
    (l70 : K.lookup f70 = some ⟨oc70, od70, .func (PySem.W.fnOf "_check_place" "_check_place" (defArgs s__check_place) (defBody s__check_place) (defScope s__check_place) .none kV70 dc70 pm70 an70 cd70 ct70), sl70⟩)
    (c70 : PySem.W.codeIn K cd70 "_check_place" = true)
    (k70 : PySem.W.keepIn K (.ref f70) = true)
    (l71 : K.lookup f71 = some ⟨oc71, od71, .func (PySem.W.fnOf "retold" "retold" (defArgs s_retold) (defBody s_retold) (defScope s_retold) .none kV71 dc71 pm71 an71 cd71 ct71), sl71⟩)
    (c71 : PySem.W.codeIn K cd71 "retold" = true)
    (k71 : PySem.W.keepIn K (.ref f71) = true)
    (l72 : K.lookup f72 = some ⟨oc72, od72, .func (PySem.W.fnOf "retold_in" "retold_in" (defArgs s_retold_in) (defBody s_retold_in) (defScope s_retold_in) .none kV72 dc72 pm72 an72 cd72 ct72), sl72⟩)
    (c72 : PySem.W.codeIn K cd72 "retold_in" = true)
    (k72 : PySem.W.keepIn K (.ref f72) = true)
    (l73 : K.lookup f73 = some ⟨oc73, od73, .func (PySem.W.fnOf "with_step" "with_step" (defArgs s_with_step) (defBody s_with_step) (defScope s_with_step) .none kV73 dc73 pm73 an73 cd73 ct73), sl73⟩)
    (c73 : PySem.W.codeIn K cd73 "with_step" = true)
    (k73 : PySem.W.keepIn K (.ref f73) = true)
    (l74 : K.lookup f74 = some ⟨oc74, od74, .func (PySem.W.fnOf "_law_called" "_law_called" (defArgs s__law_called) (defBody s__law_called) (defScope s__law_called) .none kV74 dc74 pm74 an74 cd74 ct74), sl74⟩)
    (c74 : PySem.W.codeIn K cd74 "_law_called" = true)
    (k74 : PySem.W.keepIn K (.ref f74) = true)
    (l75 : K.lookup f75 = some ⟨oc75, od75, .func (PySem.W.fnOf "_law_found" "_law_found" (defArgs s__law_found) (defBody s__law_found) (defScope s__law_found) .none kV75 dc75 pm75 an75 cd75 ct75), sl75⟩)
    (c75 : PySem.W.codeIn K cd75 "_law_found" = true)
    (k75 : PySem.W.keepIn K (.ref f75) = true)
    (l76 : K.lookup f76 = some ⟨oc76, od76, .func (PySem.W.fnOf "_law_is_fraction" "_law_is_fraction" (defArgs s__law_is_fraction) (defBody s__law_is_fraction) (defScope s__law_is_fraction) .none kV76 dc76 pm76 an76 cd76 ct76), sl76⟩)
    (c76 : PySem.W.codeIn K cd76 "_law_is_fraction" = true)
    (k76 : PySem.W.keepIn K (.ref f76) = true)
    (l77 : K.lookup f77 = some ⟨oc77, od77, .func (PySem.W.fnOf "_law_is_unit" "_law_is_unit" (defArgs s__law_is_unit) (defBody s__law_is_unit) (defScope s__law_is_unit) .none kV77 dc77 pm77 an77 cd77 ct77), sl77⟩)
    (c77 : PySem.W.codeIn K cd77 "_law_is_unit" = true)
    (k77 : PySem.W.keepIn K (.ref f77) = true)
    (l78 : K.lookup f78 = some ⟨oc78, od78, .func (PySem.W.fnOf "_law_is_cell" "_law_is_cell" (defArgs s__law_is_cell) (defBody s__law_is_cell) (defScope s__law_is_cell) .none kV78 dc78 pm78 an78 cd78 ct78), sl78⟩)
    (c78 : PySem.W.codeIn K cd78 "_law_is_cell" = true)
    (k78 : PySem.W.keepIn K (.ref f78) = true)
    (l79 : K.lookup f79 = some ⟨oc79, od79, .func (PySem.W.fnOf "_law_is_order" "_law_is_order" (defArgs s__law_is_order) (defBody s__law_is_order) (defScope s__law_is_order) .none kV79 dc79 pm79 an79 cd79 ct79), sl79⟩)
    (c79 : PySem.W.codeIn K cd79 "_law_is_order" = true)
    (k79 : PySem.W.keepIn K (.ref f79) = true)
    (l80 : K.lookup f80 = some ⟨oc80, od80, .func (PySem.W.fnOf "_law_are_refused" "_law_are_refused" (defArgs s__law_are_refused) (defBody s__law_are_refused) (defScope s__law_are_refused) .none kV80 dc80 pm80 an80 cd80 ct80), sl80⟩)
    (c80 : PySem.W.codeIn K cd80 "_law_are_refused" = true)
    (k80 : PySem.W.keepIn K (.ref f80) = true)
    (l81 : K.lookup f81 = some ⟨oc81, od81, .func (PySem.W.fnOf "__eq__" "Grid.__eq__" (defArgs s_Grid___eq__) (defBody s_Grid___eq__) (defScope s_Grid___eq__) .none kV81 dc81 pm81 an81 cd81 ct81), sl81⟩)
    (c81 : PySem.W.codeIn K cd81 "Grid.__eq__" = true)
    (k81 : PySem.W.keepIn K (.ref f81) = true)
    (l82 : K.lookup f82 = some ⟨oc82, od82, .func (PySem.W.fnOf "law" "law" (defArgs s_law) (defBody s_law) (defScope s_law) .none kV82 dc82 pm82 an82 cd82 ct82), sl82⟩)
    (c82 : PySem.W.codeIn K cd82 "law" = true)
    (k82 : PySem.W.keepIn K (.ref f82) = true)
    (c_LENGTH_OF_TWO : PySem.W.nsIn K mainGlobals "LENGTH_OF_TWO" = some (some (.int 3 t_LENGTH_OF_TWO)))
    (c_MOST_BASES : PySem.W.nsIn K mainGlobals "MOST_BASES" = some (some (.int 3 t_MOST_BASES)))
    (c_MOST_BOTTOM : PySem.W.nsIn K mainGlobals "MOST_BOTTOM" = some (some (.int 4 t_MOST_BOTTOM)))
    (c_MOST_GRIDS : PySem.W.nsIn K mainGlobals "MOST_GRIDS" = some (some (.int 6 t_MOST_GRIDS)))
    (c_MOST_MADE : PySem.W.nsIn K mainGlobals "MOST_MADE" = some (some (.int 12 t_MOST_MADE)))
    (c_MOST_ROWS : PySem.W.nsIn K mainGlobals "MOST_ROWS" = some (some (.int 10 t_MOST_ROWS)))
    (c_MOST_STEPS : PySem.W.nsIn K mainGlobals "MOST_STEPS" = some (some (.int 16 t_MOST_STEPS)))
    (c_MOST_TOP : PySem.W.nsIn K mainGlobals "MOST_TOP" = some (some (.int 6 t_MOST_TOP)))
    (mD_LENGTHS : PySem.W.nsIn K mainGlobals "LENGTHS" = some (some (.ref d_LENGTHS)))
    (lD_LENGTHS : K.lookup d_LENGTHS = some ⟨.type "dict", none, .dict es_LENGTHS dn_LENGTHS, #[]⟩)
    (oD_LENGTHS : (d_LENGTHS == sysModules) = false)
    (eD_LENGTHS : KEs w.params es_LENGTHS.toList [("plus", 3), ("times", 3), ("turned", 2), ("beside", 3), ("above", 3), ("piece", 6), ("star", 2)])
    (n_ValueError : PySem.W.nsIn K mainGlobals "ValueError" = some none)
    (n_abs : PySem.W.nsIn K mainGlobals "abs" = some none)
    (n_all : PySem.W.nsIn K mainGlobals "all" = some none)
    (n_bool : PySem.W.nsIn K mainGlobals "bool" = some none)
    (n_enumerate : PySem.W.nsIn K mainGlobals "enumerate" = some none)
    (n_int : PySem.W.nsIn K mainGlobals "int" = some none)
    (n_isinstance : PySem.W.nsIn K mainGlobals "isinstance" = some none)
    (n_len : PySem.W.nsIn K mainGlobals "len" = some none)
    (n_list : PySem.W.nsIn K mainGlobals "list" = some none)
    (n_max : PySem.W.nsIn K mainGlobals "max" = some none)
    (n_min : PySem.W.nsIn K mainGlobals "min" = some none)
    (n_range : PySem.W.nsIn K mainGlobals "range" = some none)
    (n_repr : PySem.W.nsIn K mainGlobals "repr" = some none)
    (n_sorted : PySem.W.nsIn K mainGlobals "sorted" = some none)
    (n_str : PySem.W.nsIn K mainGlobals "str" = some none)
    (n_tuple : PySem.W.nsIn K mainGlobals "tuple" = some none)
    (n_zip : PySem.W.nsIn K mainGlobals "zip" = some none)
    (v_gcd : PySem.W.nsIn K mainGlobals "gcd" = some (some (.builtin "math.gcd"))) :
    ∃ fd : FuncData, (∀ (s : Shared) (v : Value), BindsTo s fd ⟨[v], []⟩ [("script", v)]) ∧ ∀ base : Heap, K.In base → base.Ns mainGlobals mg → FnOk Pg w K mg base CX0 14 fa fd ["script"] (spLaw K) := by
  have e := hfa.symm.trans (PySem.W.mg_of X G a82)
  cases e
  have F0 := fun_mk (st := s__law_state) l0 c0 k0
  have b0 := F0.binds (ps := ["script", "turn"]) fun _ _ _ _ _ _ us hl => match us, hl with | [_, _], _ => rfl
  have F1 := fun_mk (st := s__law_mixed) l1 c1 k1
  have b1 := F1.binds (ps := ["number", "more"]) fun _ _ _ _ _ _ us hl => match us, hl with | [_, _], _ => rfl
  have F2 := fun_mk (st := s__law_draw) l2 c2 k2
  have b2 := F2.binds (ps := ["state", "many"]) fun _ _ _ _ _ _ us hl => match us, hl with | [_, _], _ => rfl
  have F3 := fun_mk (st := s__law_fit) l3 c3 k3
  have b3 := F3.binds (ps := ["step", "one", "other"]) fun _ _ _ _ _ _ us hl => match us, hl with | [_, _, _], _ => rfl
  have F4 := fun_mk (st := s__law_is_integer) l4 c4 k4
  have b4 := F4.binds (ps := ["thing"]) fun _ _ _ _ _ _ us hl => match us, hl with | [_], _ => rfl
  have F5 := fun_mk (st := s__law_made) l5 c5 k5
  have b5 := F5.binds (ps := ["step", "shapes"]) fun _ _ _ _ _ _ us hl => match us, hl with | [_, _], _ => rfl
  have F6 := fun_mk (st := s__law_step) l6 c6 k6
  have b6 := F6.binds (ps := ["state", "shapes"]) fun _ _ _ _ _ _ us hl => match us, hl with | [_, _], _ => rfl
  have F7 := fun_mk (st := s__law_steps) l7 c7 k7
  have b7 := F7.binds (ps := ["state", "shapes", "many"]) fun _ _ _ _ _ _ us hl => match us, hl with | [_, _, _], _ => rfl
  have F8 := fun_mk (st := s__law_low) l8 c8 k8
  have b8 := F8.binds (ps := ["upper", "lower"]) fun _ _ _ _ _ _ us hl => match us, hl with | [_, _], _ => rfl
  have F9 := fun_mk (st := s__law_exponent) l9 c9 k9
  have b9 := F9.binds (ps := ["state"]) fun _ _ _ _ _ _ us hl => match us, hl with | [_], _ => rfl
  have F10 := fun_mk (st := s__law_unit) l10 c10 k10
  have b10 := F10.binds (ps := ["state", "bases"]) fun _ _ _ _ _ _ us hl => match us, hl with | [_, _], _ => rfl
  have F11 := fun_mk (st := s__law_cell) l11 c11 k11
  have b11 := F11.binds (ps := ["state", "bases", "share"]) fun _ _ _ _ _ _ us hl => match us, hl with | [_, _, _], _ => rfl
  have F12 := fun_mk (st := s__law_rows) l12 c12 k12
  have b12 := F12.binds (ps := ["state", "bases", "rows", "columns", "share"]) fun _ _ _ _ _ _ us hl => match us, hl with | [_, _, _, _, _], _ => rfl
  have F13 := fun_mk (st := s__has_grid_length) l13 c13 k13
  have b13 := F13.binds (ps := ["thing"]) fun _ _ _ _ _ _ us hl => match us, hl with | [_], _ => rfl
  have F14 := fun_mk (st := s_is_whole) l14 c14 k14
  have b14 := F14.binds (ps := ["thing"]) fun _ _ _ _ _ _ us hl => match us, hl with | [_], _ => rfl
  have F15 := fun_mk (st := s_is_pair) l15 c15 k15
  have b15 := F15.binds (ps := ["thing"]) fun _ _ _ _ _ _ us hl => match us, hl with | [_], _ => rfl
  have F16 := fun_mk (st := s_is_fraction) l16 c16 k16
  have b16 := F16.binds (ps := ["thing"]) fun _ _ _ _ _ _ us hl => match us, hl with | [_], _ => rfl
  have F17 := fun_mk (st := s_is_any_unit) l17 c17 k17
  have b17 := F17.binds (ps := ["thing"]) fun _ _ _ _ _ _ us hl => match us, hl with | [_], _ => rfl
  have F18 := fun_mk (st := s_is_unit) l18 c18 k18
  have b18 := F18.binds (ps := ["bases", "thing"]) fun _ _ _ _ _ _ us hl => match us, hl with | [_, _], _ => rfl
  have F19 := fun_mk (st := s_is_cell) l19 c19 k19
  have b19 := F19.binds (ps := ["bases", "thing"]) fun _ _ _ _ _ _ us hl => match us, hl with | [_, _], _ => rfl
  have F20 := fun_mk (st := s__wrong_part) l20 c20 k20
  have b20 := F20.binds (ps := ["bases", "rows"]) fun _ _ _ _ _ _ us hl => match us, hl with | [_, _], _ => rfl
  have F21 := fun_mk (st := s_BadGrid___init__) l21 c21 k21
  have b21 := F21.binds (ps := ["self", "part"]) fun _ _ _ _ _ _ us hl => match us, hl with | [_, _], _ => rfl
  have F22 := fun_mk (st := s_Grid___init__) l22 c22 k22
  have b22 := F22.binds (ps := ["self", "bases", "rows"]) fun _ _ _ _ _ _ us hl => match us, hl with | [_, _, _], _ => rfl
  have F23 := fun_mk (st := s__law_grid) l23 c23 k23
  have b23 := F23.binds (ps := ["state", "bases", "many"]) fun _ _ _ _ _ _ us hl => match us, hl with | [_, _, _], _ => rfl
  have F24 := fun_mk (st := s__law_odd) l24 c24 k24
  have b24 := F24.binds (ps := ["state"]) fun _ _ _ _ _ _ us hl => match us, hl with | [_], _ => rfl
  have F25 := fun_mk (st := s__law_place) l25 c25 k25
  have b25 := F25.binds (ps := ["state", "many"]) fun _ _ _ _ _ _ us hl => match us, hl with | [_, _], _ => rfl
  have F26 := fun_mk (st := s__law_thing) l26 c26 k26
  have b26 := F26.binds (ps := ["state", "bases"]) fun _ _ _ _ _ _ us hl => match us, hl with | [_, _], _ => rfl
  have F27 := fun_mk (st := s__law_is_place) l27 c27 k27
  have b27 := F27.binds (ps := ["thing", "many"]) fun _ _ _ _ _ _ us hl => match us, hl with | [_, _], _ => rfl
  have F28 := fun_mk (st := s__law_spot) l28 c28 k28
  have b28 := F28.binds (ps := ["shapes", "most", "at", "i", "j"]) fun _ _ _ _ _ _ us hl => match us, hl with | [_, _, _, _, _], _ => rfl
  have F29 := fun_mk (st := s__law_some_step) l29 c29 k29
  have b29 := F29.binds (ps := ["state", "shapes"]) fun _ _ _ _ _ _ us hl => match us, hl with | [_, _], _ => rfl
  have F30 := fun_mk (st := s__law_some_order) l30 c30 k30
  have b30 := F30.binds (ps := ["state", "many"]) fun _ _ _ _ _ _ us hl => match us, hl with | [_, _], _ => rfl
  have F31 := fun_mk (st := s__shape_of_two) l31 c31 k31
  have b31 := F31.binds (ps := ["kind", "one", "other"]) fun _ _ _ _ _ _ us hl => match us, hl with | [_, _, _], _ => rfl
  have F32 := fun_mk (st := s__piece_shape) l32 c32 k32
  have b32 := F32.binds (ps := ["step", "rows", "columns"]) fun _ _ _ _ _ _ us hl => match us, hl with | [_, _, _], _ => rfl
  have F33 := fun_mk (st := s__fitting_shape) l33 c33 k33
  have b33 := F33.binds (ps := ["step", "shapes"]) fun _ _ _ _ _ _ us hl => match us, hl with | [_, _], _ => rfl
  have F34 := fun_mk (st := s_is_index) l34 c34 k34
  have b34 := F34.binds (ps := ["thing", "many"]) fun _ _ _ _ _ _ us hl => match us, hl with | [_, _], _ => rfl
  have F35 := fun_mk (st := s_sources) l35 c35 k35
  have b35 := F35.binds (ps := ["step"]) fun _ _ _ _ _ _ us hl => match us, hl with | [_], _ => rfl
  have F36 := fun_mk (st := s_is_step) l36 c36 k36
  have b36 := F36.binds (ps := ["thing", "many"]) fun _ _ _ _ _ _ us hl => match us, hl with | [_, _], _ => rfl
  have F37 := fun_mk (st := s_made_shape) l37 c37 k37
  have b37 := F37.binds (ps := ["shapes", "thing"]) fun _ _ _ _ _ _ us hl => match us, hl with | [_, _], _ => rfl
  have F38 := fun_mk (st := s_BadScript___init__) l38 c38 k38
  have b38 := F38.binds (ps := ["self", "part"]) fun _ _ _ _ _ _ us hl => match us, hl with | [_, _], _ => rfl
  have F39 := fun_mk (st := s__shapes_made) l39 c39 k39
  have b39 := F39.binds (ps := ["shapes", "steps"]) fun _ _ _ _ _ _ us hl => match us, hl with | [_, _], _ => rfl
  have F40 := fun_mk (st := s__are_grids) l40 c40 k40
  have b40 := F40.binds (ps := ["thing"]) fun _ _ _ _ _ _ us hl => match us, hl with | [_], _ => rfl
  have F41 := fun_mk (st := s__shape_put_in) l41 c41 k41
  have b41 := F41.binds (ps := ["grid"]) fun _ _ _ _ _ _ us hl => match us, hl with | [_], _ => rfl
  have F42 := fun_mk (st := s_Script___init__) l42 c42 k42
  have b42 := F42.binds (ps := ["self", "grids", "steps"]) fun _ _ _ _ _ _ us hl => match us, hl with | [_, _, _], _ => rfl
  have F43 := fun_mk (st := s_fitting_script) l43 c43 k43
  have b43 := F43.binds (ps := ["grids", "steps", "shapes"]) fun _ _ _ _ _ _ us hl => match us, hl with | [_, _, _], _ => rfl
  have F44 := fun_mk (st := s__is_order) l44 c44 k44
  have b44 := F44.binds (ps := ["thing", "many"]) fun _ _ _ _ _ _ us hl => match us, hl with | [_, _], _ => rfl
  have F45 := fun_mk (st := s_many_grids) l45 c45 k45
  have b45 := F45.binds (ps := ["script"]) fun _ _ _ _ _ _ us hl => match us, hl with | [_], _ => rfl
  have F46 := fun_mk (st := s__renumbered_step) l46 c46 k46
  have b46 := F46.binds (ps := ["step", "numbers"]) fun _ _ _ _ _ _ us hl => match us, hl with | [_, _], _ => rfl
  have F47 := fun_mk (st := s_GridError___init__) l47 c47 k47
  have b47 := F47.binds (ps := ["self"]) fun _ _ _ _ _ _ us hl => match us, hl with | [_], _ => rfl
  have F48 := fun_mk (st := s_renamed) l48 c48 k48
  have b48 := F48.binds (ps := ["script", "order"]) fun _ _ _ _ _ _ us hl => match us, hl with | [_, _], _ => rfl
  have F49 := fun_mk (st := s_check_grid) l49 c49 k49
  have b49 := F49.binds (ps := ["script", "at"]) fun _ _ _ _ _ _ us hl => match us, hl with | [_, _], _ => rfl
  have F50 := fun_mk (st := s_shape) l50 c50 k50
  have b50 := F50.binds (ps := ["script", "at"]) fun _ _ _ _ _ _ us hl => match us, hl with | [_, _], _ => rfl
  have F51 := fun_mk (st := s_check_cell) l51 c51 k51
  have b51 := F51.binds (ps := ["script", "at", "i", "j"]) fun _ _ _ _ _ _ us hl => match us, hl with | [_, _, _, _], _ => rfl
  have F52 := fun_mk (st := s_Cells___init__) l52 c52 k52
  have b52 := F52.binds (ps := ["self"]) fun _ _ _ _ _ _ us hl => match us, hl with | [_], _ => rfl
  have F53 := fun_mk (st := s_leading) l53 c53 k53
  have b53 := F53.binds (ps := ["script", "at"]) fun _ _ _ _ _ _ us hl => match us, hl with | [_, _], _ => rfl
  have F54 := fun_mk (st := s_turned) l54 c54 k54
  have b54 := F54.binds (ps := ["rows"]) fun _ _ _ _ _ _ us hl => match us, hl with | [_], _ => rfl
  have F55 := fun_mk (st := s_moved) l55 c55 k55
  have b55 := F55.binds (ps := ["step", "grids"]) fun _ _ _ _ _ _ us hl => match us, hl with | [_, _], _ => rfl
  have F56 := fun_mk (st := s_Cells_product_of) l56 c56 k56
  have b56 := F56.binds (ps := ["self", "one", "other"]) fun _ _ _ _ _ _ us hl => match us, hl with | [_, _, _], _ => rfl
  have F57 := fun_mk (st := s_Cells_sum_of) l57 c57 k57
  have b57 := F57.binds (ps := ["self", "one", "other"]) fun _ _ _ _ _ _ us hl => match us, hl with | [_, _, _], _ => rfl
  have F58 := fun_mk (st := s_Cells_inner) l58 c58 k58
  have b58 := F58.binds (ps := ["self", "row", "column"]) fun _ _ _ _ _ _ us hl => match us, hl with | [_, _, _], _ => rfl
  have F59 := fun_mk (st := s_Cells_products) l59 c59 k59
  have b59 := F59.binds (ps := ["self", "one", "other"]) fun _ _ _ _ _ _ us hl => match us, hl with | [_, _, _], _ => rfl
  have F60 := fun_mk (st := s_Cells_powers_of) l60 c60 k60
  have b60 := F60.binds (ps := ["self", "one"]) fun _ _ _ _ _ _ us hl => match us, hl with | [_, _], _ => rfl
  have F61 := fun_mk (st := s_Cells_with_paths) l61 c61 k61
  have b61 := F61.binds (ps := ["self", "row", "to_place", "around", "from_place"]) fun _ _ _ _ _ _ us hl => match us, hl with | [_, _, _, _, _], _ => rfl
  have F62 := fun_mk (st := s_Cells_stars) l62 c62 k62
  have b62 := F62.binds (ps := ["self", "rows"]) fun _ _ _ _ _ _ us hl => match us, hl with | [_, _], _ => rfl
  have F63 := fun_mk (st := s_Cells_sums) l63 c63 k63
  have b63 := F63.binds (ps := ["self", "one", "other"]) fun _ _ _ _ _ _ us hl => match us, hl with | [_, _, _], _ => rfl
  have F64 := fun_mk (st := s_Cells_rows_made) l64 c64 k64
  have b64 := F64.binds (ps := ["self", "step", "grids"]) fun _ _ _ _ _ _ us hl => match us, hl with | [_, _, _], _ => rfl
  have F65 := fun_mk (st := s_Cells_put_in) l65 c65 k65
  have b65 := F65.binds (ps := ["self", "number", "i", "j", "unit"]) fun _ _ _ _ _ _ us hl => match us, hl with | [_, _, _, _, _], _ => rfl
  have F66 := fun_mk (st := s_Cells_rows_put_in) l66 c66 k66
  have b66 := F66.binds (ps := ["self", "number", "grid"]) fun _ _ _ _ _ _ us hl => match us, hl with | [_, _, _], _ => rfl
  have F67 := fun_mk (st := s_Cells_grids_of) l67 c67 k67
  have b67 := F67.binds (ps := ["self", "script", "wanted"]) fun _ _ _ _ _ _ us hl => match us, hl with | [_, _, _], _ => rfl
  have F68 := fun_mk (st := s_Cells_grids_to) l68 c68 k68
  have b68 := F68.binds (ps := ["self", "script", "at"]) fun _ _ _ _ _ _ us hl => match us, hl with | [_, _, _], _ => rfl
  have F69 := fun_mk (st := s_is_nought) l69 c69 k69
  have b69 := F69.binds (ps := ["script", "at", "i", "j"]) fun _ _ _ _ _ _ us hl => match us, hl with | [_, _, _, _], _ => rfl
  have F70 := fun_mk (st := s__check_place) l70 c70 k70
  have b70 := F70.binds (ps := ["grid", "i", "j"]) fun _ _ _ _ _ _ us hl => match us, hl with | [_, _, _], _ => rfl
  have F71 := fun_mk (st := s_retold) l71 c71 k71
  have b71 := F71.binds (ps := ["grid", "i", "j", "thing"]) fun _ _ _ _ _ _ us hl => match us, hl with | [_, _, _, _], _ => rfl
  have F72 := fun_mk (st := s_retold_in) l72 c72 k72
  have b72 := F72.binds (ps := ["script", "at", "i", "j", "thing"]) fun _ _ _ _ _ _ us hl => match us, hl with | [_, _, _, _, _], _ => rfl
  have F73 := fun_mk (st := s_with_step) l73 c73 k73
  have b73 := F73.binds (ps := ["script", "step"]) fun _ _ _ _ _ _ us hl => match us, hl with | [_, _], _ => rfl
  have F74 := fun_mk (st := s__law_called) l74 c74 k74
  have b74 := F74.binds (ps := ["which", "script", "told"]) fun _ _ _ _ _ _ us hl => match us, hl with | [_, _, _], _ => rfl
  have F75 := fun_mk (st := s__law_found) l75 c75 k75
  have b75 := F75.binds (ps := ["which", "script", "told"]) fun _ _ _ _ _ _ us hl => match us, hl with | [_, _, _], _ => rfl
  have F76 := fun_mk (st := s__law_is_fraction) l76 c76 k76
  have b76 := F76.binds (ps := ["thing"]) fun _ _ _ _ _ _ us hl => match us, hl with | [_], _ => rfl
  have F77 := fun_mk (st := s__law_is_unit) l77 c77 k77
  have b77 := F77.binds (ps := ["bases", "thing"]) fun _ _ _ _ _ _ us hl => match us, hl with | [_, _], _ => rfl
  have F78 := fun_mk (st := s__law_is_cell) l78 c78 k78
  have b78 := F78.binds (ps := ["bases", "thing"]) fun _ _ _ _ _ _ us hl => match us, hl with | [_, _], _ => rfl
  have F79 := fun_mk (st := s__law_is_order) l79 c79 k79
  have b79 := F79.binds (ps := ["thing", "many"]) fun _ _ _ _ _ _ us hl => match us, hl with | [_, _], _ => rfl
  have F80 := fun_mk (st := s__law_are_refused) l80 c80 k80
  have b80 := F80.binds (ps := ["state", "made", "grids", "steps", "shapes"]) fun _ _ _ _ _ _ us hl => match us, hl with | [_, _, _, _, _], _ => rfl
  have F81 := fun_mk (st := s_Grid___eq__) l81 c81 k81
  have b81 := F81.binds (ps := ["self", "other"]) fun _ _ _ _ _ _ us hl => match us, hl with | [_, _], _ => rfl
  have F82 := fun_mk (st := s_law) l82 c82 k82
  have b82 := F82.binds (ps := ["script"]) fun _ _ _ _ _ _ us hl => match us, hl with | [_], _ => rfl
  let T : Txt K mg := { w0 := w, D__law_state := ⟨f0, _, F0, PySem.W.mg_of X G a0, b0⟩, D__law_mixed := ⟨f1, _, F1, PySem.W.mg_of X G a1, b1⟩, D__law_draw := ⟨f2, _, F2, PySem.W.mg_of X G a2, b2⟩, D__law_fit := ⟨f3, _, F3, PySem.W.mg_of X G a3, b3⟩, D__law_is_integer := ⟨f4, _, F4, PySem.W.mg_of X G a4, b4⟩, D__law_made := ⟨f5, _, F5, PySem.W.mg_of X G a5, b5⟩, D__law_step := ⟨f6, _, F6, PySem.W.mg_of X G a6, b6⟩, D__law_steps := ⟨f7, _, F7, PySem.W.mg_of X G a7, b7⟩, D__law_low := ⟨f8, _, F8, PySem.W.mg_of X G a8, b8⟩, D__law_exponent := ⟨f9, _, F9, PySem.W.mg_of X G a9, b9⟩, D__law_unit := ⟨f10, _, F10, PySem.W.mg_of X G a10, b10⟩, D__law_cell := ⟨f11, _, F11, PySem.W.mg_of X G a11, b11⟩, D__law_rows := ⟨f12, _, F12, PySem.W.mg_of X G a12, b12⟩, D__has_grid_length := ⟨f13, _, F13, PySem.W.mg_of X G a13, b13⟩, D_is_whole := ⟨f14, _, F14, PySem.W.mg_of X G a14, b14⟩, D_is_pair := ⟨f15, _, F15, PySem.W.mg_of X G a15, b15⟩, D_is_fraction := ⟨f16, _, F16, PySem.W.mg_of X G a16, b16⟩, D_is_any_unit := ⟨f17, _, F17, PySem.W.mg_of X G a17, b17⟩, D_is_unit := ⟨f18, _, F18, PySem.W.mg_of X G a18, b18⟩, D_is_cell := ⟨f19, _, F19, PySem.W.mg_of X G a19, b19⟩, D__wrong_part := ⟨f20, _, F20, PySem.W.mg_of X G a20, b20⟩, D_BadGrid___init__ := ⟨f21, _, F21, b21⟩, D_Grid___init__ := ⟨f22, _, F22, b22⟩, D__law_grid := ⟨f23, _, F23, PySem.W.mg_of X G a23, b23⟩, D__law_odd := ⟨f24, _, F24, PySem.W.mg_of X G a24, b24⟩, D__law_place := ⟨f25, _, F25, PySem.W.mg_of X G a25, b25⟩, D__law_thing := ⟨f26, _, F26, PySem.W.mg_of X G a26, b26⟩, D__law_is_place := ⟨f27, _, F27, PySem.W.mg_of X G a27, b27⟩, D__law_spot := ⟨f28, _, F28, PySem.W.mg_of X G a28, b28⟩, D__law_some_step := ⟨f29, _, F29, PySem.W.mg_of X G a29, b29⟩, D__law_some_order := ⟨f30, _, F30, PySem.W.mg_of X G a30, b30⟩, D__shape_of_two := ⟨f31, _, F31, PySem.W.mg_of X G a31, b31⟩, D__piece_shape := ⟨f32, _, F32, PySem.W.mg_of X G a32, b32⟩, D__fitting_shape := ⟨f33, _, F33, PySem.W.mg_of X G a33, b33⟩, D_is_index := ⟨f34, _, F34, PySem.W.mg_of X G a34, b34⟩, D_sources := ⟨f35, _, F35, PySem.W.mg_of X G a35, b35⟩, D_is_step := ⟨f36, _, F36, PySem.W.mg_of X G a36, b36⟩, D_made_shape := ⟨f37, _, F37, PySem.W.mg_of X G a37, b37⟩, D_BadScript___init__ := ⟨f38, _, F38, b38⟩, D__shapes_made := ⟨f39, _, F39, PySem.W.mg_of X G a39, b39⟩, D__are_grids := ⟨f40, _, F40, PySem.W.mg_of X G a40, b40⟩, D__shape_put_in := ⟨f41, _, F41, PySem.W.mg_of X G a41, b41⟩, D_Script___init__ := ⟨f42, _, F42, b42⟩, D_fitting_script := ⟨f43, _, F43, PySem.W.mg_of X G a43, b43⟩, D__is_order := ⟨f44, _, F44, PySem.W.mg_of X G a44, b44⟩, D_many_grids := ⟨f45, _, F45, PySem.W.mg_of X G a45, b45⟩, D__renumbered_step := ⟨f46, _, F46, PySem.W.mg_of X G a46, b46⟩, D_GridError___init__ := ⟨f47, _, F47, b47⟩, D_renamed := ⟨f48, _, F48, PySem.W.mg_of X G a48, b48⟩, D_check_grid := ⟨f49, _, F49, PySem.W.mg_of X G a49, b49⟩, D_shape := ⟨f50, _, F50, PySem.W.mg_of X G a50, b50⟩, D_check_cell := ⟨f51, _, F51, PySem.W.mg_of X G a51, b51⟩, D_Cells___init__ := ⟨f52, _, F52, b52⟩, D_leading := ⟨f53, _, F53, PySem.W.mg_of X G a53, b53⟩, D_turned := ⟨f54, _, F54, PySem.W.mg_of X G a54, b54⟩, D_moved := ⟨f55, _, F55, PySem.W.mg_of X G a55, b55⟩, D_Cells_product_of := ⟨f56, _, F56, b56⟩, D_Cells_sum_of := ⟨f57, _, F57, b57⟩, D_Cells_inner := ⟨f58, _, F58, b58⟩, D_Cells_products := ⟨f59, _, F59, b59⟩, D_Cells_powers_of := ⟨f60, _, F60, b60⟩, D_Cells_with_paths := ⟨f61, _, F61, b61⟩, D_Cells_stars := ⟨f62, _, F62, b62⟩, D_Cells_sums := ⟨f63, _, F63, b63⟩, D_Cells_rows_made := ⟨f64, _, F64, b64⟩, D_Cells_put_in := ⟨f65, _, F65, b65⟩, D_Cells_rows_put_in := ⟨f66, _, F66, b66⟩, D_Cells_grids_of := ⟨f67, _, F67, b67⟩, D_Cells_grids_to := ⟨f68, _, F68, b68⟩, D_is_nought := ⟨f69, _, F69, PySem.W.mg_of X G a69, b69⟩, D__check_place := ⟨f70, _, F70, PySem.W.mg_of X G a70, b70⟩, D_retold := ⟨f71, _, F71, PySem.W.mg_of X G a71, b71⟩, D_retold_in := ⟨f72, _, F72, PySem.W.mg_of X G a72, b72⟩, D_with_step := ⟨f73, _, F73, PySem.W.mg_of X G a73, b73⟩, D__law_called := ⟨f74, _, F74, PySem.W.mg_of X G a74, b74⟩, D__law_found := ⟨f75, _, F75, PySem.W.mg_of X G a75, b75⟩, D__law_is_fraction := ⟨f76, _, F76, PySem.W.mg_of X G a76, b76⟩, D__law_is_unit := ⟨f77, _, F77, PySem.W.mg_of X G a77, b77⟩, D__law_is_cell := ⟨f78, _, F78, PySem.W.mg_of X G a78, b78⟩, D__law_is_order := ⟨f79, _, F79, PySem.W.mg_of X G a79, b79⟩, D__law_are_refused := ⟨f80, _, F80, PySem.W.mg_of X G a80, b80⟩, D_Grid___eq__ := ⟨f81, _, F81, b81⟩, D_law := ⟨fa, _, F82, PySem.W.mg_of X G a82, b82⟩, ty_BadGrid___init__ := tI_BadGrid___init__, ty_BadScript___init__ := tI_BadScript___init__, ty_GridError___init__ := tI_GridError___init__, x_GridError := ⟨C_GridError, PySem.W.mg_of X G gC_GridError, ⟨⟨_, _, _, _, _, _, _, _, _, _, _, _, _, _, _, lk_GridError, rv_GridError⟩, sa_GridError, eb_GridError, ty_GridError, kp_GridError⟩, iC_GridError⟩, x_NoUnit := ⟨C_NoUnit, PySem.W.mg_of X G gC_NoUnit, ⟨⟨_, _, _, _, _, _, _, _, _, _, _, _, _, _, _, lk_NoUnit, rv_NoUnit⟩, sa_NoUnit, eb_NoUnit, ty_NoUnit, kp_NoUnit⟩, iC_NoUnit⟩, x_BadGrid := ⟨C_BadGrid, PySem.W.mg_of X G gC_BadGrid, ⟨⟨_, _, _, _, _, _, _, _, _, _, _, _, _, _, _, lk_BadGrid, rv_BadGrid⟩, sa_BadGrid, eb_BadGrid, ty_BadGrid, kp_BadGrid⟩, iC_BadGrid⟩, x_NoCell := ⟨C_NoCell, PySem.W.mg_of X G gC_NoCell, ⟨⟨_, _, _, _, _, _, _, _, _, _, _, _, _, _, _, lk_NoCell, rv_NoCell⟩, sa_NoCell, eb_NoCell, ty_NoCell, kp_NoCell⟩, iC_NoCell⟩, x_BadScript := ⟨C_BadScript, PySem.W.mg_of X G gC_BadScript, ⟨⟨_, _, _, _, _, _, _, _, _, _, _, _, _, _, _, lk_BadScript, rv_BadScript⟩, sa_BadScript, eb_BadScript, ty_BadScript, kp_BadScript⟩, iC_BadScript⟩, x_NoGrid := ⟨C_NoGrid, PySem.W.mg_of X G gC_NoGrid, ⟨⟨_, _, _, _, _, _, _, _, _, _, _, _, _, _, _, lk_NoGrid, rv_NoGrid⟩, sa_NoGrid, eb_NoGrid, ty_NoGrid, kp_NoGrid⟩, iC_NoGrid⟩, x_NoOrder := ⟨C_NoOrder, PySem.W.mg_of X G gC_NoOrder, ⟨⟨_, _, _, _, _, _, _, _, _, _, _, _, _, _, _, lk_NoOrder, rv_NoOrder⟩, sa_NoOrder, eb_NoOrder, ty_NoOrder, kp_NoOrder⟩, iC_NoOrder⟩, k_Cells := ⟨C_Cells, PySem.W.mg_of X G gC_Cells, (cls_of oC_Cells).2, (cls_of oC_Cells).1⟩, k_Grid := ⟨C_Grid, PySem.W.mg_of X G gC_Grid, (cls_of oC_Grid).2, (cls_of oC_Grid).1⟩, k_Script := ⟨C_Script, PySem.W.mg_of X G gC_Script, (cls_of oC_Script).2, (cls_of oC_Script).1⟩, i_Grid := isi_of ii_Grid, q_Grid := eqT_of qC_Grid, mt_Cells_grids_of := me_of mB_Cells_grids_of, mt_Cells_grids_to := me_of mB_Cells_grids_to, mt_Cells_inner := me_of mB_Cells_inner, mt_Cells_powers_of := me_of mB_Cells_powers_of, mt_Cells_product_of := me_of mB_Cells_product_of, mt_Cells_products := me_of mB_Cells_products, mt_Cells_put_in := me_of mB_Cells_put_in, mt_Cells_rows_made := me_of mB_Cells_rows_made, mt_Cells_rows_put_in := me_of mB_Cells_rows_put_in, mt_Cells_stars := me_of mB_Cells_stars, mt_Cells_sum_of := me_of mB_Cells_sum_of, mt_Cells_sums := me_of mB_Cells_sums, mt_Cells_with_paths := me_of mB_Cells_with_paths, na_Cells_nought := nA_Cells_nought, na_Grid_bases := nA_Grid_bases, na_Grid_rows := nA_Grid_rows, na_Script_grids := nA_Script_grids, na_Script_steps := nA_Script_steps, na_Script_shapes := nA_Script_shapes, xf_BadScript := xfB_ok xf_BadScript, nx_BadGrid_part := nx_BadGrid_part, nx_BadScript_part := nx_BadScript_part, em_GridError_NoGrid := em_of em_GridError_NoGrid, em_GridError_NoCell := em_of em_GridError_NoCell, em_GridError_NoUnit := em_of em_GridError_NoUnit, em_GridError_NoOrder := em_of em_GridError_NoOrder, em_GridError_BadScript := em_of em_GridError_BadScript, em_GridError_GridError := em_of em_GridError_GridError, em_NoUnit_NoGrid := em_of em_NoUnit_NoGrid, em_NoUnit_NoCell := em_of em_NoUnit_NoCell, em_NoUnit_NoUnit := em_of em_NoUnit_NoUnit, em_NoUnit_NoOrder := em_of em_NoUnit_NoOrder, em_NoUnit_BadScript := em_of em_NoUnit_BadScript, em_NoUnit_GridError := em_of em_NoUnit_GridError, em_BadGrid_NoGrid := em_of em_BadGrid_NoGrid, em_BadGrid_NoCell := em_of em_BadGrid_NoCell, em_BadGrid_NoUnit := em_of em_BadGrid_NoUnit, em_BadGrid_NoOrder := em_of em_BadGrid_NoOrder, em_BadGrid_BadScript := em_of em_BadGrid_BadScript, em_BadGrid_GridError := em_of em_BadGrid_GridError, em_NoCell_NoGrid := em_of em_NoCell_NoGrid, em_NoCell_NoCell := em_of em_NoCell_NoCell, em_NoCell_NoUnit := em_of em_NoCell_NoUnit, em_NoCell_NoOrder := em_of em_NoCell_NoOrder, em_NoCell_BadScript := em_of em_NoCell_BadScript, em_NoCell_GridError := em_of em_NoCell_GridError, em_BadScript_NoGrid := em_of em_BadScript_NoGrid, em_BadScript_NoCell := em_of em_BadScript_NoCell, em_BadScript_NoUnit := em_of em_BadScript_NoUnit, em_BadScript_NoOrder := em_of em_BadScript_NoOrder, em_BadScript_BadScript := em_of em_BadScript_BadScript, em_BadScript_GridError := em_of em_BadScript_GridError, em_NoGrid_NoGrid := em_of em_NoGrid_NoGrid, em_NoGrid_NoCell := em_of em_NoGrid_NoCell, em_NoGrid_NoUnit := em_of em_NoGrid_NoUnit, em_NoGrid_NoOrder := em_of em_NoGrid_NoOrder, em_NoGrid_BadScript := em_of em_NoGrid_BadScript, em_NoGrid_GridError := em_of em_NoGrid_GridError, em_NoOrder_NoGrid := em_of em_NoOrder_NoGrid, em_NoOrder_NoCell := em_of em_NoOrder_NoCell, em_NoOrder_NoUnit := em_of em_NoOrder_NoUnit, em_NoOrder_NoOrder := em_of em_NoOrder_NoOrder, em_NoOrder_BadScript := em_of em_NoOrder_BadScript, em_NoOrder_GridError := em_of em_NoOrder_GridError, v_VE := v_VE, t_LENGTH_OF_TWO := t_LENGTH_OF_TWO, c_LENGTH_OF_TWO := PySem.W.mg_of X G c_LENGTH_OF_TWO, t_MOST_BASES := t_MOST_BASES, c_MOST_BASES := PySem.W.mg_of X G c_MOST_BASES, t_MOST_BOTTOM := t_MOST_BOTTOM, c_MOST_BOTTOM := PySem.W.mg_of X G c_MOST_BOTTOM, t_MOST_GRIDS := t_MOST_GRIDS, c_MOST_GRIDS := PySem.W.mg_of X G c_MOST_GRIDS, t_MOST_MADE := t_MOST_MADE, c_MOST_MADE := PySem.W.mg_of X G c_MOST_MADE, t_MOST_ROWS := t_MOST_ROWS, c_MOST_ROWS := PySem.W.mg_of X G c_MOST_ROWS, t_MOST_STEPS := t_MOST_STEPS, c_MOST_STEPS := PySem.W.mg_of X G c_MOST_STEPS, t_MOST_TOP := t_MOST_TOP, c_MOST_TOP := PySem.W.mg_of X G c_MOST_TOP, d_LENGTHS := d_LENGTHS, m_LENGTHS := PySem.W.mg_of X G mD_LENGTHS, kd_LENGTHS := ⟨⟨_, _, lD_LENGTHS, eD_LENGTHS⟩, oD_LENGTHS⟩, n_ValueError := PySem.W.mg_none_of X G n_ValueError, n_abs := PySem.W.mg_none_of X G n_abs, n_all := PySem.W.mg_none_of X G n_all, n_bool := PySem.W.mg_none_of X G n_bool, n_enumerate := PySem.W.mg_none_of X G n_enumerate, n_int := PySem.W.mg_none_of X G n_int, n_isinstance := PySem.W.mg_none_of X G n_isinstance, n_len := PySem.W.mg_none_of X G n_len, n_list := PySem.W.mg_none_of X G n_list, n_max := PySem.W.mg_none_of X G n_max, n_min := PySem.W.mg_none_of X G n_min, n_range := PySem.W.mg_none_of X G n_range, n_repr := PySem.W.mg_none_of X G n_repr, n_sorted := PySem.W.mg_none_of X G n_sorted, n_str := PySem.W.mg_none_of X G n_str, n_tuple := PySem.W.mg_none_of X G n_tuple, n_zip := PySem.W.mg_none_of X G n_zip, v_gcd := PySem.W.mg_of X G v_gcd }
  exact ⟨T.D_law.d, fun s v => .of_eq rfl, fun base _ _ => ok_law T⟩
end Lk12
open PySem PySem.W PyProof.Rows
set_option maxRecDepth 100000 in
set_option maxHeartbeats 0 in
theorem PySem.Challenge.cw_unitgrids_k12_scripts_refused_holds : PySem.Challenge.rw_unitgrids_k12_scripts_refused.Holds := by
  w_on; o_law; k_head; (case hw => w_witness2)
  k_fill
  refine L2.walk_of (l := PySem.Challenge.rw_unitgrids_k12_scripts_refused) (n := 63) (k := 14) (x := "script") (CX := fun _ => L2.CX0) (sp := fun w => PD.spLaw _) rfl (by decide) rfl ⟨rfl, by decide, by decide⟩ (fun w h Y => PySem.W.kIn_of Y) ?F (fun _ _ a ns hl _ hS => ⟨a, ns, rfl, hS, hl, fun _ => rfl⟩) (fun _ _ _ _ _ h => h)
  case F =>
    intro w mg fa h KX G hmg
    refine' Lk12.all_mk KX G hmg ?a0 ?a1 ?a2 ?a3 ?a4 ?a5 ?a6 ?a7 ?a8 ?a9 ?a10 ?a11 ?a12 ?a13 ?a14 ?a15 ?a16 ?a17 ?a18 ?a19 ?a20 ?a23 ?a24 ?a25 ?a26 ?a27 ?a28 ?a29 ?a30 ?a31 ?a32 ?a33 ?a34 ?a35 ?a36 ?a37 ?a39 ?a40 ?a41 ?a43 ?a44 ?a45 ?a46 ?a48 ?a49 ?a50 ?a51 ?a53 ?a54 ?a55 ?a69 ?a70 ?a71 ?a72 ?a73 ?a74 ?a75 ?a76 ?a77 ?a78 ?a79 ?a80 ?a82 ?gC_GridError ?iC_GridError ?lk_GridError ?rv_GridError ?sa_GridError ?eb_GridError ?ty_GridError ?kp_GridError ?gC_NoUnit ?iC_NoUnit ?lk_NoUnit ?rv_NoUnit ?sa_NoUnit ?eb_NoUnit ?ty_NoUnit ?kp_NoUnit ?gC_BadGrid ?iC_BadGrid ?lk_BadGrid ?rv_BadGrid ?sa_BadGrid ?eb_BadGrid ?ty_BadGrid ?kp_BadGrid ?gC_NoCell ?iC_NoCell ?lk_NoCell ?rv_NoCell ?sa_NoCell ?eb_NoCell ?ty_NoCell ?kp_NoCell ?gC_BadScript ?iC_BadScript ?lk_BadScript ?rv_BadScript ?sa_BadScript ?eb_BadScript ?ty_BadScript ?kp_BadScript ?gC_NoGrid ?iC_NoGrid ?lk_NoGrid ?rv_NoGrid ?sa_NoGrid ?eb_NoGrid ?ty_NoGrid ?kp_NoGrid ?gC_NoOrder ?iC_NoOrder ?lk_NoOrder ?rv_NoOrder ?sa_NoOrder ?eb_NoOrder ?ty_NoOrder ?kp_NoOrder ?gC_Cells ?iC_Cells ?oC_Cells ?gC_Grid ?iC_Grid ?oC_Grid ?gC_Script ?iC_Script ?oC_Script ?ii_Grid ?eC_Grid ?qC_Grid ?mE_Cells_grids_of ?mB_Cells_grids_of ?mE_Cells_grids_to ?mB_Cells_grids_to ?mE_Cells_inner ?mB_Cells_inner ?mE_Cells_powers_of ?mB_Cells_powers_of ?mE_Cells_product_of ?mB_Cells_product_of ?mE_Cells_products ?mB_Cells_products ?mE_Cells_put_in ?mB_Cells_put_in ?mE_Cells_rows_made ?mB_Cells_rows_made ?mE_Cells_rows_put_in ?mB_Cells_rows_put_in ?mE_Cells_stars ?mB_Cells_stars ?mE_Cells_sum_of ?mB_Cells_sum_of ?mE_Cells_sums ?mB_Cells_sums ?mE_Cells_with_paths ?mB_Cells_with_paths ?tI_BadGrid___init__ ?tI_BadScript___init__ ?tI_GridError___init__ ?nA_Cells_nought ?nA_Grid_bases ?nA_Grid_rows ?nA_Script_grids ?nA_Script_steps ?nA_Script_shapes ?xf_BadScript ?nx_BadGrid_part ?nx_BadScript_part ?em_GridError_NoGrid ?em_GridError_NoCell ?em_GridError_NoUnit ?em_GridError_NoOrder ?em_GridError_BadScript ?em_GridError_GridError ?em_NoUnit_NoGrid ?em_NoUnit_NoCell ?em_NoUnit_NoUnit ?em_NoUnit_NoOrder ?em_NoUnit_BadScript ?em_NoUnit_GridError ?em_BadGrid_NoGrid ?em_BadGrid_NoCell ?em_BadGrid_NoUnit ?em_BadGrid_NoOrder ?em_BadGrid_BadScript ?em_BadGrid_GridError ?em_NoCell_NoGrid ?em_NoCell_NoCell ?em_NoCell_NoUnit ?em_NoCell_NoOrder ?em_NoCell_BadScript ?em_NoCell_GridError ?em_BadScript_NoGrid ?em_BadScript_NoCell ?em_BadScript_NoUnit ?em_BadScript_NoOrder ?em_BadScript_BadScript ?em_BadScript_GridError ?em_NoGrid_NoGrid ?em_NoGrid_NoCell ?em_NoGrid_NoUnit ?em_NoGrid_NoOrder ?em_NoGrid_BadScript ?em_NoGrid_GridError ?em_NoOrder_NoGrid ?em_NoOrder_NoCell ?em_NoOrder_NoUnit ?em_NoOrder_NoOrder ?em_NoOrder_BadScript ?em_NoOrder_GridError ?v_VE ?l0 ?c0 ?k0 ?l1 ?c1 ?k1 ?l2 ?c2 ?k2 ?l3 ?c3 ?k3 ?l4 ?c4 ?k4 ?l5 ?c5 ?k5 ?l6 ?c6 ?k6 ?l7 ?c7 ?k7 ?l8 ?c8 ?k8 ?l9 ?c9 ?k9 ?l10 ?c10 ?k10 ?l11 ?c11 ?k11 ?l12 ?c12 ?k12 ?l13 ?c13 ?k13 ?l14 ?c14 ?k14 ?l15 ?c15 ?k15 ?l16 ?c16 ?k16 ?l17 ?c17 ?k17 ?l18 ?c18 ?k18 ?l19 ?c19 ?k19 ?l20 ?c20 ?k20 ?l21 ?c21 ?k21 ?l22 ?c22 ?k22 ?l23 ?c23 ?k23 ?l24 ?c24 ?k24 ?l25 ?c25 ?k25 ?l26 ?c26 ?k26 ?l27 ?c27 ?k27 ?l28 ?c28 ?k28 ?l29 ?c29 ?k29 ?l30 ?c30 ?k30 ?l31 ?c31 ?k31 ?l32 ?c32 ?k32 ?l33 ?c33 ?k33 ?l34 ?c34 ?k34 ?l35 ?c35 ?k35 ?l36 ?c36 ?k36 ?l37 ?c37 ?k37 ?l38 ?c38 ?k38 ?l39 ?c39 ?k39 ?l40 ?c40 ?k40 ?l41 ?c41 ?k41 ?l42 ?c42 ?k42 ?l43 ?c43 ?k43 ?l44 ?c44 ?k44 ?l45 ?c45 ?k45 ?l46 ?c46 ?k46 ?l47 ?c47 ?k47 ?l48 ?c48 ?k48 ?l49 ?c49 ?k49 ?l50 ?c50 ?k50 ?l51 ?c51 ?k51 ?l52 ?c52 ?k52 ?l53 ?c53 ?k53 ?l54 ?c54 ?k54 ?l55 ?c55 ?k55 ?l56 ?c56 ?k56 ?l57 ?c57 ?k57 ?l58 ?c58 ?k58 ?l59 ?c59 ?k59 ?l60 ?c60 ?k60 ?l61 ?c61 ?k61 ?l62 ?c62 ?k62 ?l63 ?c63 ?k63 ?l64 ?c64 ?k64 ?l65 ?c65 ?k65 ?l66 ?c66 ?k66 ?l67 ?c67 ?k67 ?l68 ?c68 ?k68 ?l69 ?c69 ?k69 ?l70 ?c70 ?k70 ?l71 ?c71 ?k71 ?l72 ?c72 ?k72 ?l73 ?c73 ?k73 ?l74 ?c74 ?k74 ?l75 ?c75 ?k75 ?l76 ?c76 ?k76 ?l77 ?c77 ?k77 ?l78 ?c78 ?k78 ?l79 ?c79 ?k79 ?l80 ?c80 ?k80 ?l81 ?c81 ?k81 ?l82 ?c82 ?k82 ?c_LENGTH_OF_TWO ?c_MOST_BASES ?c_MOST_BOTTOM ?c_MOST_GRIDS ?c_MOST_MADE ?c_MOST_ROWS ?c_MOST_STEPS ?c_MOST_TOP ?mD_LENGTHS ?lD_LENGTHS ?oD_LENGTHS ?eD_LENGTHS ?n_ValueError ?n_abs ?n_all ?n_bool ?n_enumerate ?n_int ?n_isinstance ?n_len ?n_list ?n_max ?n_min ?n_range ?n_repr ?n_sorted ?n_str ?n_tuple ?n_zip ?v_gcd
    (case a0 => k_is)
    (case a1 => k_is)
    (case a2 => k_is)
    (case a3 => k_is)
    (case a4 => k_is)
    (case a5 => k_is)
    (case a6 => k_is)
    (case a7 => k_is)
    (case a8 => k_is)
    (case a9 => k_is)
    (case a10 => k_is)
    (case a11 => k_is)
    (case a12 => k_is)
    (case a13 => k_is)
    (case a14 => k_is)
    (case a15 => k_is)
    (case a16 => k_is)
    (case a17 => k_is)
    (case a18 => k_is)
    (case a19 => k_is)
    (case a20 => k_is)
    (case a23 => k_is)
    (case a24 => k_is)
    (case a25 => k_is)
    (case a26 => k_is)
    (case a27 => k_is)
    (case a28 => k_is)
    (case a29 => k_is)
    (case a30 => k_is)
    (case a31 => k_is)
    (case a32 => k_is)
    (case a33 => k_is)
    (case a34 => k_is)
    (case a35 => k_is)
    (case a36 => k_is)
    (case a37 => k_is)
    (case a39 => k_is)
    (case a40 => k_is)
    (case a41 => k_is)
    (case a43 => k_is)
    (case a44 => k_is)
    (case a45 => k_is)
    (case a46 => k_is)
    (case a48 => k_is)
    (case a49 => k_is)
    (case a50 => k_is)
    (case a51 => k_is)
    (case a53 => k_is)
    (case a54 => k_is)
    (case a55 => k_is)
    (case a69 => k_is)
    (case a70 => k_is)
    (case a71 => k_is)
    (case a72 => k_is)
    (case a73 => k_is)
    (case a74 => k_is)
    (case a75 => k_is)
    (case a76 => k_is)
    (case a77 => k_is)
    (case a78 => k_is)
    (case a79 => k_is)
    (case a80 => k_is)
    (case a82 => k_is)
    (case gC_GridError => k_is)
    (case iC_GridError => k_is)
    (case lk_GridError => k_is)
    (case rv_GridError => kernel_rfl)
    (case sa_GridError => k_is)
    (case eb_GridError => k_is)
    (case ty_GridError => k_is)
    (case kp_GridError => k_is)
    (case gC_NoUnit => k_is)
    (case iC_NoUnit => k_is)
    (case lk_NoUnit => k_is)
    (case rv_NoUnit => kernel_rfl)
    (case sa_NoUnit => k_is)
    (case eb_NoUnit => k_is)
    (case ty_NoUnit => k_is)
    (case kp_NoUnit => k_is)
    (case gC_BadGrid => k_is)
    (case iC_BadGrid => k_is)
    (case lk_BadGrid => k_is)
    (case rv_BadGrid => kernel_rfl)
    (case sa_BadGrid => k_is)
    (case eb_BadGrid => k_is)
    (case ty_BadGrid => k_is)
    (case kp_BadGrid => k_is)
    (case gC_NoCell => k_is)
    (case iC_NoCell => k_is)
    (case lk_NoCell => k_is)
    (case rv_NoCell => kernel_rfl)
    (case sa_NoCell => k_is)
    (case eb_NoCell => k_is)
    (case ty_NoCell => k_is)
    (case kp_NoCell => k_is)
    (case gC_BadScript => k_is)
    (case iC_BadScript => k_is)
    (case lk_BadScript => k_is)
    (case rv_BadScript => kernel_rfl)
    (case sa_BadScript => k_is)
    (case eb_BadScript => k_is)
    (case ty_BadScript => k_is)
    (case kp_BadScript => k_is)
    (case gC_NoGrid => k_is)
    (case iC_NoGrid => k_is)
    (case lk_NoGrid => k_is)
    (case rv_NoGrid => kernel_rfl)
    (case sa_NoGrid => k_is)
    (case eb_NoGrid => k_is)
    (case ty_NoGrid => k_is)
    (case kp_NoGrid => k_is)
    (case gC_NoOrder => k_is)
    (case iC_NoOrder => k_is)
    (case lk_NoOrder => k_is)
    (case rv_NoOrder => kernel_rfl)
    (case sa_NoOrder => k_is)
    (case eb_NoOrder => k_is)
    (case ty_NoOrder => k_is)
    (case kp_NoOrder => k_is)
    (case gC_Cells => k_is)
    (case iC_Cells => k_is)
    (case oC_Cells => kernel_rfl)
    (case gC_Grid => k_is)
    (case iC_Grid => k_is)
    (case oC_Grid => kernel_rfl)
    (case gC_Script => k_is)
    (case iC_Script => k_is)
    (case oC_Script => kernel_rfl)
    (case ii_Grid => kernel_rfl)
    (case eC_Grid => k_is)
    (case qC_Grid => kernel_rfl)
    (case mE_Cells_grids_of => k_is)
    (case mB_Cells_grids_of => kernel_rfl)
    (case mE_Cells_grids_to => k_is)
    (case mB_Cells_grids_to => kernel_rfl)
    (case mE_Cells_inner => k_is)
    (case mB_Cells_inner => kernel_rfl)
    (case mE_Cells_powers_of => k_is)
    (case mB_Cells_powers_of => kernel_rfl)
    (case mE_Cells_product_of => k_is)
    (case mB_Cells_product_of => kernel_rfl)
    (case mE_Cells_products => k_is)
    (case mB_Cells_products => kernel_rfl)
    (case mE_Cells_put_in => k_is)
    (case mB_Cells_put_in => kernel_rfl)
    (case mE_Cells_rows_made => k_is)
    (case mB_Cells_rows_made => kernel_rfl)
    (case mE_Cells_rows_put_in => k_is)
    (case mB_Cells_rows_put_in => kernel_rfl)
    (case mE_Cells_stars => k_is)
    (case mB_Cells_stars => kernel_rfl)
    (case mE_Cells_sum_of => k_is)
    (case mB_Cells_sum_of => kernel_rfl)
    (case mE_Cells_sums => k_is)
    (case mB_Cells_sums => kernel_rfl)
    (case mE_Cells_with_paths => k_is)
    (case mB_Cells_with_paths => kernel_rfl)
    (case tI_BadGrid___init__ => k_is)
    (case tI_BadScript___init__ => k_is)
    (case tI_GridError___init__ => k_is)
    (case nA_Cells_nought => k_is)
    (case nA_Grid_bases => k_is)
    (case nA_Grid_rows => k_is)
    (case nA_Script_grids => k_is)
    (case nA_Script_steps => k_is)
    (case nA_Script_shapes => k_is)
    (case xf_BadScript => kernel_rfl)
    (case nx_BadGrid_part => k_is)
    (case nx_BadScript_part => k_is)
    (case em_GridError_NoGrid => kernel_rfl)
    (case em_GridError_NoCell => kernel_rfl)
    (case em_GridError_NoUnit => kernel_rfl)
    (case em_GridError_NoOrder => kernel_rfl)
    (case em_GridError_BadScript => kernel_rfl)
    (case em_GridError_GridError => kernel_rfl)
    (case em_NoUnit_NoGrid => kernel_rfl)
    (case em_NoUnit_NoCell => kernel_rfl)
    (case em_NoUnit_NoUnit => kernel_rfl)
    (case em_NoUnit_NoOrder => kernel_rfl)
    (case em_NoUnit_BadScript => kernel_rfl)
    (case em_NoUnit_GridError => kernel_rfl)
    (case em_BadGrid_NoGrid => kernel_rfl)
    (case em_BadGrid_NoCell => kernel_rfl)
    (case em_BadGrid_NoUnit => kernel_rfl)
    (case em_BadGrid_NoOrder => kernel_rfl)
    (case em_BadGrid_BadScript => kernel_rfl)
    (case em_BadGrid_GridError => kernel_rfl)
    (case em_NoCell_NoGrid => kernel_rfl)
    (case em_NoCell_NoCell => kernel_rfl)
    (case em_NoCell_NoUnit => kernel_rfl)
    (case em_NoCell_NoOrder => kernel_rfl)
    (case em_NoCell_BadScript => kernel_rfl)
    (case em_NoCell_GridError => kernel_rfl)
    (case em_BadScript_NoGrid => kernel_rfl)
    (case em_BadScript_NoCell => kernel_rfl)
    (case em_BadScript_NoUnit => kernel_rfl)
    (case em_BadScript_NoOrder => kernel_rfl)
    (case em_BadScript_BadScript => kernel_rfl)
    (case em_BadScript_GridError => kernel_rfl)
    (case em_NoGrid_NoGrid => kernel_rfl)
    (case em_NoGrid_NoCell => kernel_rfl)
    (case em_NoGrid_NoUnit => kernel_rfl)
    (case em_NoGrid_NoOrder => kernel_rfl)
    (case em_NoGrid_BadScript => kernel_rfl)
    (case em_NoGrid_GridError => kernel_rfl)
    (case em_NoOrder_NoGrid => kernel_rfl)
    (case em_NoOrder_NoCell => kernel_rfl)
    (case em_NoOrder_NoUnit => kernel_rfl)
    (case em_NoOrder_NoOrder => kernel_rfl)
    (case em_NoOrder_BadScript => kernel_rfl)
    (case em_NoOrder_GridError => kernel_rfl)
    (case v_VE => k_is)
    (case l0 => k_is)
    (case c0 => k_is)
    (case k0 => k_is)
    (case l1 => k_is)
    (case c1 => k_is)
    (case k1 => k_is)
    (case l2 => k_is)
    (case c2 => k_is)
    (case k2 => k_is)
    (case l3 => k_is)
    (case c3 => k_is)
    (case k3 => k_is)
    (case l4 => k_is)
    (case c4 => k_is)
    (case k4 => k_is)
    (case l5 => k_is)
    (case c5 => k_is)
    (case k5 => k_is)
    (case l6 => k_is)
    (case c6 => k_is)
    (case k6 => k_is)
    (case l7 => k_is)
    (case c7 => k_is)
    (case k7 => k_is)
    (case l8 => k_is)
    (case c8 => k_is)
    (case k8 => k_is)
    (case l9 => k_is)
    (case c9 => k_is)
    (case k9 => k_is)
    (case l10 => k_is)
    (case c10 => k_is)
    (case k10 => k_is)
    (case l11 => k_is)
    (case c11 => k_is)
    (case k11 => k_is)
    (case l12 => k_is)
    (case c12 => k_is)
    (case k12 => k_is)
    (case l13 => k_is)
    (case c13 => k_is)
    (case k13 => k_is)
    (case l14 => k_is)
    (case c14 => k_is)
    (case k14 => k_is)
    (case l15 => k_is)
    (case c15 => k_is)
    (case k15 => k_is)
    (case l16 => k_is)
    (case c16 => k_is)
    (case k16 => k_is)
    (case l17 => k_is)
    (case c17 => k_is)
    (case k17 => k_is)
    (case l18 => k_is)
    (case c18 => k_is)
    (case k18 => k_is)
    (case l19 => k_is)
    (case c19 => k_is)
    (case k19 => k_is)
    (case l20 => k_is)
    (case c20 => k_is)
    (case k20 => k_is)
    (case l21 => k_is)
    (case c21 => k_is)
    (case k21 => k_is)
    (case l22 => k_is)
    (case c22 => k_is)
    (case k22 => k_is)
    (case l23 => k_is)
    (case c23 => k_is)
    (case k23 => k_is)
    (case l24 => k_is)
    (case c24 => k_is)
    (case k24 => k_is)
    (case l25 => k_is)
    (case c25 => k_is)
    (case k25 => k_is)
    (case l26 => k_is)
    (case c26 => k_is)
    (case k26 => k_is)
    (case l27 => k_is)
    (case c27 => k_is)
    (case k27 => k_is)
    (case l28 => k_is)
    (case c28 => k_is)
    (case k28 => k_is)
    (case l29 => k_is)
    (case c29 => k_is)
    (case k29 => k_is)
    (case l30 => k_is)
    (case c30 => k_is)
    (case k30 => k_is)
    (case l31 => k_is)
    (case c31 => k_is)
    (case k31 => k_is)
    (case l32 => k_is)
    (case c32 => k_is)
    (case k32 => k_is)
    (case l33 => k_is)
    (case c33 => k_is)
    (case k33 => k_is)
    (case l34 => k_is)
    (case c34 => k_is)
    (case k34 => k_is)
    (case l35 => k_is)
    (case c35 => k_is)
    (case k35 => k_is)
    (case l36 => k_is)
    (case c36 => k_is)
    (case k36 => k_is)
    (case l37 => k_is)
    (case c37 => k_is)
    (case k37 => k_is)
    (case l38 => k_is)
    (case c38 => k_is)
    (case k38 => k_is)
    (case l39 => k_is)
    (case c39 => k_is)
    (case k39 => k_is)
    (case l40 => k_is)
    (case c40 => k_is)
    (case k40 => k_is)
    (case l41 => k_is)
    (case c41 => k_is)
    (case k41 => k_is)
    (case l42 => k_is)
    (case c42 => k_is)
    (case k42 => k_is)
    (case l43 => k_is)
    (case c43 => k_is)
    (case k43 => k_is)
    (case l44 => k_is)
    (case c44 => k_is)
    (case k44 => k_is)
    (case l45 => k_is)
    (case c45 => k_is)
    (case k45 => k_is)
    (case l46 => k_is)
    (case c46 => k_is)
    (case k46 => k_is)
    (case l47 => k_is)
    (case c47 => k_is)
    (case k47 => k_is)
    (case l48 => k_is)
    (case c48 => k_is)
    (case k48 => k_is)
    (case l49 => k_is)
    (case c49 => k_is)
    (case k49 => k_is)
    (case l50 => k_is)
    (case c50 => k_is)
    (case k50 => k_is)
    (case l51 => k_is)
    (case c51 => k_is)
    (case k51 => k_is)
    (case l52 => k_is)
    (case c52 => k_is)
    (case k52 => k_is)
    (case l53 => k_is)
    (case c53 => k_is)
    (case k53 => k_is)
    (case l54 => k_is)
    (case c54 => k_is)
    (case k54 => k_is)
    (case l55 => k_is)
    (case c55 => k_is)
    (case k55 => k_is)
    (case l56 => k_is)
    (case c56 => k_is)
    (case k56 => k_is)
    (case l57 => k_is)
    (case c57 => k_is)
    (case k57 => k_is)
    (case l58 => k_is)
    (case c58 => k_is)
    (case k58 => k_is)
    (case l59 => k_is)
    (case c59 => k_is)
    (case k59 => k_is)
    (case l60 => k_is)
    (case c60 => k_is)
    (case k60 => k_is)
    (case l61 => k_is)
    (case c61 => k_is)
    (case k61 => k_is)
    (case l62 => k_is)
    (case c62 => k_is)
    (case k62 => k_is)
    (case l63 => k_is)
    (case c63 => k_is)
    (case k63 => k_is)
    (case l64 => k_is)
    (case c64 => k_is)
    (case k64 => k_is)
    (case l65 => k_is)
    (case c65 => k_is)
    (case k65 => k_is)
    (case l66 => k_is)
    (case c66 => k_is)
    (case k66 => k_is)
    (case l67 => k_is)
    (case c67 => k_is)
    (case k67 => k_is)
    (case l68 => k_is)
    (case c68 => k_is)
    (case k68 => k_is)
    (case l69 => k_is)
    (case c69 => k_is)
    (case k69 => k_is)
    (case l70 => k_is)
    (case c70 => k_is)
    (case k70 => k_is)
    (case l71 => k_is)
    (case c71 => k_is)
    (case k71 => k_is)
    (case l72 => k_is)
    (case c72 => k_is)
    (case k72 => k_is)
    (case l73 => k_is)
    (case c73 => k_is)
    (case k73 => k_is)
    (case l74 => k_is)
    (case c74 => k_is)
    (case k74 => k_is)
    (case l75 => k_is)
    (case c75 => k_is)
    (case k75 => k_is)
    (case l76 => k_is)
    (case c76 => k_is)
    (case k76 => k_is)
    (case l77 => k_is)
    (case c77 => k_is)
    (case k77 => k_is)
    (case l78 => k_is)
    (case c78 => k_is)
    (case k78 => k_is)
    (case l79 => k_is)
    (case c79 => k_is)
    (case k79 => k_is)
    (case l80 => k_is)
    (case c80 => k_is)
    (case k80 => k_is)
    (case l81 => k_is)
    (case c81 => k_is)
    (case k81 => k_is)
    (case l82 => k_is)
    (case c82 => k_is)
    (case k82 => k_is)
    (case c_LENGTH_OF_TWO => k_is)
    (case c_MOST_BASES => k_is)
    (case c_MOST_BOTTOM => k_is)
    (case c_MOST_GRIDS => k_is)
    (case c_MOST_MADE => k_is)
    (case c_MOST_ROWS => k_is)
    (case c_MOST_STEPS => k_is)
    (case c_MOST_TOP => k_is)
    (case mD_LENGTHS => k_is)
    (case lD_LENGTHS => k_is)
    (case oD_LENGTHS => kernel_rfl)
    (case eD_LENGTHS => exact ⟨⟨_, rfl⟩, rfl, ⟨_, rfl⟩, ⟨_, rfl⟩, rfl, ⟨_, rfl⟩, ⟨_, rfl⟩, rfl, ⟨_, rfl⟩, ⟨_, rfl⟩, rfl, ⟨_, rfl⟩, ⟨_, rfl⟩, rfl, ⟨_, rfl⟩, ⟨_, rfl⟩, rfl, ⟨_, rfl⟩, ⟨_, rfl⟩, rfl, ⟨_, rfl⟩, trivial⟩)
    (case n_ValueError => k_is)
    (case n_abs => k_is)
    (case n_all => k_is)
    (case n_bool => k_is)
    (case n_enumerate => k_is)
    (case n_int => k_is)
    (case n_isinstance => k_is)
    (case n_len => k_is)
    (case n_list => k_is)
    (case n_max => k_is)
    (case n_min => k_is)
    (case n_range => k_is)
    (case n_repr => k_is)
    (case n_sorted => k_is)
    (case n_str => k_is)
    (case n_tuple => k_is)
    (case n_zip => k_is)
    (case v_gcd => k_is)
