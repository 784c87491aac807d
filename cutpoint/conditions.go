package cutpoint

import "jacquard/api"

// Transfers reports whether Active and Data of all streams are what the instructions at the point demand, or else returns a stream for which they are not.
func (m *Moment) Transfers() (int, bool) {
	if m.P.Kind == api.CutDone {
		return 0, true
	}
	n := m.e.N
	for s := range n.Streams {
		count := 0
		predicate, data := m.word(1, 0), -1
		m.each(func(_, q int, in api.Inst) bool {
			if in.Op != api.OpRecv && in.Op != api.OpSend || in.Mem != s {
				return true
			}
			count++
			predicate = m.E(in.Args[len(in.Args)-1], q)
			if in.Op == api.OpSend {
				data = m.E(in.Args[0], q)
			}
			return true
		})
		if count > 1 || m.cycle.Wires[n.Active[s]] != predicate || data >= 0 && m.cycle.Wires[n.Data[s]] != data {
			return s, false
		}
	}
	return 0, true
}

// Freeze reports whether Freeze is what the demands of the streams say.
func (m *Moment) Freeze() (int, bool) {
	if m.P.Kind == api.CutDone {
		return 0, true
	}
	want := m.word(1, 0)
	for s, active := range m.e.N.Active {
		closed := m.make(api.OpXor, 1, m.opens[s], m.word(1, 1))
		want = m.make(api.OpOr, 1, want, m.make(api.OpAnd, 1, m.cycle.Wires[active], closed))
	}
	return 0, m.cycle.Wires[m.e.N.Freeze] == want
}

// Stores reports whether the writes of memories are the stores at the point, or else returns a cell, or an instruction, that has no partner.
func (m *Moment) Stores() (int, bool) {
	if m.P.Kind == api.CutDone {
		return 0, true
	}
	type store struct{ inst, mem, index, data, predicate int }
	var stores []store
	m.each(func(k, q int, in api.Inst) bool {
		if in.Op != api.OpStore {
			return true
		}
		x := store{k, in.Mem, m.E(in.Args[0], q), m.E(in.Args[1], q), m.E(in.Args[2], q)}
		if n, known := m.t.Word(x.predicate); !known || n != 0 {
			stores = append(stores, x)
		}
		return true
	})
	for i, c := range m.e.N.Cells {
		if c.Kind != api.CellWrite {
			continue
		}
		enable, address, data := m.cycle.Wires[c.Args[0]], m.cycle.Wires[c.Args[1]], m.cycle.Wires[c.Args[2]]
		if n, known := m.t.Word(enable); known && n == 0 {
			continue
		}
		found := -1
		for j, x := range stores {
			if x.mem == c.Mem && x.predicate == enable && x.data == data && m.isIndex(address, x.index) {
				found = j
				break
			}
		}
		if found < 0 {
			return i, false
		}
		stores = append(stores[:found], stores[found+1:]...)
	}
	if len(stores) > 0 {
		return stores[0].inst, false
	}
	return 0, true
}

// Done reports whether Done says that the run is done, with the right words, exactly at the end.
func (m *Moment) Done() (int, bool) {
	n, known := m.t.Word(m.cycle.Wires[m.e.N.Done])
	end := m.P.Kind == api.CutDone
	if !known || (n == 1) != end {
		return 0, false
	}
	if !end {
		return 0, true
	}
	for i, v := range m.block.Term.Rets {
		if m.cycle.Wires[m.e.N.Rets[i]] != m.E(v, 0) {
			return i, false
		}
	}
	return 0, true
}

// Holds reports whether everything that the Holds of the point to which a way leads say is true then, or else returns the cell of one that is not.
func (m *Moment) Holds(way api.Way, holds []api.Hold) (int, bool) {
	for _, h := range holds {
		if !m.Says(way, h) {
			return h.Cell, false
		}
	}
	return 0, true
}

// Says reports whether what a Hold says is true at the point to which a way leads.
func (m *Moment) Says(way api.Way, h api.Hold) bool {
	gets := m.Gets(h.Cell, h.Slot)
	if h.Kind == api.HoldWord {
		n, known := m.t.Word(gets)
		return known && n == h.Word
	}
	return gets == m.Target(way, h.Value, h.Stage) && !m.failed
}
