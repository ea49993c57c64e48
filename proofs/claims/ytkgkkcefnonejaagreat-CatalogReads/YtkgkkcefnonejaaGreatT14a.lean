/- Walks of layer 8: copies of tables and procedures (sizes). -/
import Derived.Test.YtkgkkcefnonejaaGreatT14
namespace Go.Proofs.YtkgkkcefnonejaaGreat
open Go.RowKit

/-- Sizes of a table, of a procedure, that is copied. -/
structure TbF (t : Tb) : Prop where
  nm : t.nm.size ≤ 1099511627776
  cols : t.cols.length ≤ 1000000
  colnm : ∀ c ∈ t.cols, c.nm.size ≤ 1099511627776
  key0 : 0 < t.key.length
  key : t.key.length ≤ 1000000
  ixs : t.ixs.length ≤ 1000000
  ix : ∀ c ∈ t.ixs, c.nm.size ≤ 1099511627776 ∧ 0 < c.cols.length ∧ c.cols.length ≤ 1000000
structure PcF (p : Pc) : Prop where
  nm : p.nm.size ≤ 1099511627776
  prms : p.prms.length ≤ 1000000
  prmnm : ∀ c ∈ p.prms, c.nm.size ≤ 1099511627776
  body : p.body.length ≤ 1000000
  src : ∀ s ∈ p.body, s.size ≤ 1099511627776

end Go.Proofs.YtkgkkcefnonejaaGreat
