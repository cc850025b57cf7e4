package sheaf_test

import (
	"math/rand"
	"slices"
	"strconv"
	"testing"

	"sheaf/api"
	"sheaf/sheaf"
)

// model is what a store has to be: its collections, and the numbers that are the _ids of the documents of each.
type model map[string][]int

func (m model) create(name string) api.Errno {
	_, there := m[name]
	switch {
	case name == "A" || name == "":
		return api.ErrNone
	case there:
		return api.ErrThere
	case len(m) == 6:
		return api.ErrFull
	}
	m[name] = nil
	return api.OK
}

func (m model) drop(name string) api.Errno {
	if _, there := m[name]; !there {
		return api.ErrNone
	}
	delete(m, name)
	return api.OK
}

func (m model) insert(name string, id int) api.Errno {
	ids, there := m[name]
	switch {
	case !there:
		return api.ErrNone
	case slices.Contains(ids, id):
		return api.ErrThere
	case len(ids) == 60:
		return api.ErrFull
	}
	m[name] = append(ids, id)
	return api.OK
}

func (m model) remove(name string, from, to int) (int, api.Errno) {
	ids, there := m[name]
	if !there {
		return 0, api.ErrNone
	}
	var left []int
	for _, id := range ids {
		if id < from || id >= to {
			left = append(left, id)
		}
	}
	m[name] = left
	return len(ids) - len(left), api.OK
}

func (m model) docs(name string) []string {
	var l []string
	for _, id := range m[name] {
		l = append(l, `{"_id":`+strconv.Itoa(id)+`}`)
	}
	return l
}

// TestStoreGoesWithAModel does the same at random to a store and to a model.
func TestStoreGoesWithAModel(t *testing.T) {
	r := rand.New(rand.NewSource(7))
	s, m := sheaf.New(), model{}
	names := []string{"a", "b", "c", "d", "e", "f", "g", "A", ""}
	seen := map[api.Errno]int{}
	for range 20000 {
		name, id := names[r.Intn(len(names))], r.Intn(80)
		var got, want api.Errno
		switch n := r.Intn(1000); {
		case n < 50:
			got, want = s.Create(name), m.create(name)
		case n < 55:
			got, want = s.Drop(name), m.drop(name)
		case n < 75:
			var removed, due int
			to := id + r.Intn(30)
			removed, got = s.Delete(name, `{"_id":{"$gte":`+strconv.Itoa(id)+`,"$lt":`+strconv.Itoa(to)+`}}`)
			due, want = m.remove(name, id, to)
			if removed != due {
				t.Fatalf("P9: Delete(%s, %d to %d) = %d, want %d", name, id, to, removed, due)
			}
		default:
			got, want = s.Insert(name, `{"_id":`+strconv.Itoa(id)+`}`), m.insert(name, id)
		}
		seen[got]++
		found, errno := s.Find(name, "{}")
		_, there := m[name]
		if got != want || !slices.Equal(found, m.docs(name)) || (errno == api.OK) != there {
			t.Fatalf("P7: %s: %d, want %d; %q, %d, want %q", name, got, want, found, errno, m.docs(name))
		}
	}
	for _, errno := range []api.Errno{api.OK, api.ErrNone, api.ErrThere, api.ErrFull} {
		if seen[errno] < 100 {
			t.Errorf("answer %d came %d times only", errno, seen[errno])
		}
	}
}
