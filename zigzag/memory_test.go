package zigzag_test

import (
	"runtime"
	"slices"
	"testing"
	"unsafe"
	"weak"

	"treadle/zigzag"
)

// W6: a store keeps its own copy of a key: memory that the text shares may be changed by its owner.
func TestKeysNotShared(t *testing.T) {
	room := []byte("bbb")
	shared := unsafe.String(&room[0], len(room))
	s := played("a=1 c=3")
	s.Put(shared, 9)
	s.Mark()
	s.Put(shared, 8)
	all, held := s.Range(shared, shared), s.Snapshot(shared)
	clear(room)
	if v, ok := s.Get("bbb"); v != 8 || !ok {
		t.Errorf("W6: %d, %v", v, ok)
	}
	if k, ok := s.Next("a"); k != "bbb" || !ok {
		t.Errorf("W6: Next: %q, %v", k, ok)
	}
	if got, kept := said(all), said(held); got != "bbb8" || kept != "c3" {
		t.Errorf("W6: %s, %s", got, kept)
	}
}

// W6: each key that is answered is memory of its own, and whoever has it may do with it as he likes while the loop goes on.
func TestKeysAnswered(t *testing.T) {
	const key = "a key of some length"
	s := zigzag.New[int]()
	s.Put(key, 1)
	s.Mark()
	seen := map[*byte]string{unsafe.StringData(key): "the argument"}
	apart := func(who, k string) {
		t.Helper()
		if k != key {
			t.Errorf("%s: %q", who, k)
		}
		if was, ok := seen[unsafe.StringData(k)]; ok {
			t.Errorf("W6: %s shares memory with %s", who, was)
		}
		seen[unsafe.StringData(k)] = who
	}
	for range 2 {
		k, _ := s.Next("")
		apart("Next", k)
		for k := range s.Range("", "") {
			apart("Range", k)
		}
		for k := range s.Range(key, key) {
			apart("Range from it", k)
		}
		for k := range s.Snapshot("") {
			apart("Snapshot", k)
		}
	}
	s.Put("b", 2)
	s.Put("c", 3)
	var keys []string
	for k := range s.Range("", "") {
		keys = append(keys, string([]byte(k)))
		row := unsafe.Slice(unsafe.StringData(k), len(k))
		for i := range row {
			row[i] = 'z'
		}
	}
	if !slices.Equal(keys, []string{key, "b", "c"}) {
		t.Errorf("W6: %q", keys)
	}
}

// W6: texts that were handed in are let go as soon as their owner lets them go, and so is a value, once no copy has it.
func TestNotKept(t *testing.T) {
	type held struct {
		rows []weak.Pointer[[4096]byte]
		keep []any
	}
	told := make(chan held)
	// A goroutine of its own, so that no stack of this one holds them any more.
	go func() {
		var h held
		row := func() *[4096]byte {
			p := new([4096]byte)
			h.rows = append(h.rows, weak.Make(p))
			return p
		}
		text := func(fill byte) string {
			p := row()
			for i := range p {
				p[i] = fill
			}
			return unsafe.String(&p[0], 40)
		}
		s := zigzag.New[*[4096]byte]()
		for i := range byte(20) {
			s.Put(text('a'+i), row())
			s.Put(text('a'+i), row())
			s.Get(text('a' + i))
			s.Next(text('a' + i))
			s.Slot(text('a' + i))
		}
		h.keep = append(h.keep, s.Range(text('b'), text('d')), s.Snapshot(text('e')))
		for i := range byte(20) {
			s.Delete(text('a' + (i*7+3)%20))
		}
		s.Mark()
		for i := range byte(20) {
			s.Put(text('a'+i), row())
			s.Delete(text('a' + i))
		}
		s.Done()
		s.Put("k", row())
		s.Mark()
		s.Put("k", row())
		s.Put("k", nil)
		s.Put("l", row())
		s.Delete("k")
		s.Delete("l")
		s.Done()
		s.Mark()
		s.Put("m", row())
		s.Delete("m")
		h.keep = append(h.keep, s)
		told <- h
	}()
	h := <-told
	for range 10 {
		runtime.GC()
	}
	for i, p := range h.rows {
		if p.Value() != nil {
			t.Errorf("W6: row %d is kept", i)
		}
	}
	runtime.KeepAlive(h.keep)
}
