package atom_test

import (
	"math/rand"
	"slices"
	"testing"

	"rookery/api"
	"rookery/atom"
)

// Of texts that come again and again: numbers from 0 to Len less 1, no two
// names with one, and each name keeps its own.
func TestP3_3Numbers(t *testing.T) {
	r := rand.New(rand.NewSource(33))
	x := atom.New()
	first := map[string]int{}
	for range 3000 {
		s := anyText(r)
		n, e := x.Put(s)
		if e != api.OK {
			continue
		}
		if had, ok := first[s]; ok && had != n {
			t.Errorf("P3.3: Put(%q): %d, and %d at first", s, n, had)
		}
		first[s] = n
		if n < 0 || n >= x.Len() {
			t.Errorf("P3.3: Put(%q): %d of %d names", s, n, x.Len())
		}
		wantName(t, x, n, s, api.OK)
	}
	if x.Len() != len(first) || x.Len() < 20 {
		t.Errorf("P3.3: %d numbers of %d names", x.Len(), len(first))
	}
	taken := make([]bool, x.Len())
	for s, n := range first {
		if taken[n] {
			t.Errorf("P3.3: %q has a number that another name has", s)
		}
		taken[n] = true
		wantFind(t, x, s, n, true)
		wantPut(t, x, s, n, api.OK)
	}
}

// Tables and their copies, told many things in turn, against lists of names.
func TestP3_3AsTheModel(t *testing.T) {
	r := rand.New(rand.NewSource(34))
	tables, models := []*atom.Table{atom.New()}, []*model{{}}
	for range 4000 {
		i := r.Intn(len(tables))
		x, m := tables[i], models[i]
		if r.Intn(100) == 0 {
			if len(tables) > 7 {
				tables, models = tables[1:], models[1:]
			}
			tables = append(tables, x.Copy())
			models = append(models, &model{slices.Clone(m.names)})
			continue
		}
		s := anyText(r)
		n, e := m.put(s)
		wantPut(t, x, s, n, e)
		wantFind(t, x, s, n, e == api.OK)
		j := r.Intn(len(tables))
		wantTable(t, tables[j], models[j].names)
	}
	for i, x := range tables {
		wantTable(t, x, models[i].names)
	}
}
