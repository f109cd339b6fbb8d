package disk_test

import (
	"bytes"
	"fmt"
	"math/rand"
	"slices"
	"testing"

	"treadle/api"
	"treadle/disk"
)

// modelChange is an Append of data, or, if it cuts, a Truncate to size.
type modelChange struct {
	data []byte
	cuts bool
	size int
}

type modelFile struct {
	safe    []byte
	pending []modelChange
}

// behind is the bytes behind the first k changes and, of each, whether one of them brought it.
func (f *modelFile) behind(k int) (data []byte, brought []bool) {
	data = slices.Clone(f.safe)
	brought = make([]bool, len(data))
	for _, c := range f.pending[:k] {
		if c.cuts {
			data, brought = data[:c.size], brought[:c.size]
			continue
		}
		data = append(data, c.data...)
		brought = append(brought, slices.Repeat([]bool{true}, len(c.data))...)
	}
	return data, brought
}

func (f *modelFile) data() []byte {
	data, _ := f.behind(len(f.pending))
	return data
}

func (f *modelFile) held() int {
	most := 0
	for k := range len(f.pending) + 1 {
		data, _ := f.behind(k)
		most = max(most, len(data))
	}
	return most
}

type modelNames map[string]*modelFile

// model is the chapter's disk, reckoned anew from what is safe whenever it is asked.
type model struct {
	room, files   int
	made          []*modelFile // all that were ever made
	safe          modelNames
	changes       []func(modelNames)
	plan          api.Plan
	off           bool
	strokes, read int
}

func newModel(room, files int) *model {
	return &model{room: room, files: files, safe: modelNames{}}
}

func (m *model) behind(k int) modelNames {
	names := modelNames{}
	for name, f := range m.safe {
		names[name] = f
	}
	for _, c := range m.changes[:k] {
		c(names)
	}
	return names
}

func (m *model) names() modelNames { return m.behind(len(m.changes)) }

func (m *model) living() []*modelFile {
	found := map[*modelFile]bool{}
	for k := range len(m.changes) + 1 {
		for _, f := range m.behind(k) {
			found[f] = true
		}
	}
	var l []*modelFile
	for _, f := range m.made {
		if found[f] {
			l = append(l, f)
		}
	}
	return l
}

func (m *model) held() (sum, files int) {
	for _, f := range m.living() {
		sum += f.held()
		files++
	}
	return sum, files
}

func modelName(name string) bool {
	if len(name) == 0 || len(name) > 40 {
		return false
	}
	for _, c := range []byte(name) {
		if c <= ' ' || c >= 127 {
			return false
		}
	}
	return true
}

// fault is the planned one for the number n.
func (m *model) fault(l []api.Fault, n int) api.Errno {
	for _, f := range l {
		if f.At != n {
			continue
		}
		switch f.Kind {
		case api.FaultOff:
			m.off = true
			return api.ErrOff
		case api.FaultIO:
			return api.ErrIO
		case api.FaultFull:
			return api.ErrFull
		}
	}
	return api.OK
}

// ahead is the errors ahead of the stroke, of a call that needs a file of that name.
func (m *model) ahead(name string) (*modelFile, api.Errno) {
	if m.off {
		return nil, api.ErrOff
	}
	if !modelName(name) {
		return nil, api.ErrName
	}
	f := m.names()[name]
	if f == nil {
		return nil, api.ErrNone
	}
	return f, api.OK
}

func (m *model) stroke() api.Errno {
	m.strokes++
	return m.fault(m.plan.Strokes, m.strokes)
}

func (m *model) Create(name string) api.Errno {
	_, e := m.ahead(name)
	if e == api.OK {
		return api.ErrExists
	}
	if e != api.ErrNone {
		return e
	}
	if e := m.stroke(); e != api.OK {
		return e
	}
	if len(m.living())+1 > m.files {
		return api.ErrFiles
	}
	f := &modelFile{}
	m.made = append(m.made, f)
	m.changes = append(m.changes, func(n modelNames) { n[name] = f })
	return api.OK
}

func (m *model) Append(name string, data []byte) api.Errno {
	f, e := m.ahead(name)
	if e != api.OK {
		return e
	}
	if e := m.stroke(); e != api.OK {
		return e
	}
	before := f.pending
	f.pending = append(slices.Clone(before), modelChange{data: slices.Clone(data)})
	if sum, _ := m.held(); sum > m.room {
		f.pending = before
		return api.ErrFull
	}
	if len(data) == 0 {
		f.pending = before
	}
	return api.OK
}

func (m *model) Truncate(name string, size int) api.Errno {
	f, e := m.ahead(name)
	if e != api.OK {
		return e
	}
	if size < 0 || size > len(f.data()) {
		return api.ErrArg
	}
	if e := m.stroke(); e != api.OK {
		return e
	}
	if size != len(f.data()) {
		f.pending = append(f.pending, modelChange{cuts: true, size: size})
	}
	return api.OK
}

func (m *model) Sync(name string) api.Errno {
	f, e := m.ahead(name)
	if e != api.OK {
		return e
	}
	if e := m.stroke(); e != api.OK {
		return e
	}
	f.safe, f.pending = f.data(), nil
	return api.OK
}

func (m *model) SyncNames() api.Errno {
	if m.off {
		return api.ErrOff
	}
	if e := m.stroke(); e != api.OK {
		return e
	}
	m.safe, m.changes = m.names(), nil
	return api.OK
}

func (m *model) Rename(from, to string) api.Errno {
	if m.off {
		return api.ErrOff
	}
	if !modelName(from) || !modelName(to) {
		return api.ErrName
	}
	if _, e := m.ahead(from); e != api.OK {
		return e
	}
	if e := m.stroke(); e != api.OK {
		return e
	}
	if from != to {
		m.changes = append(m.changes, func(n modelNames) {
			f := n[from]
			delete(n, from)
			n[to] = f
		})
	}
	return api.OK
}

func (m *model) Remove(name string) api.Errno {
	if _, e := m.ahead(name); e != api.OK {
		return e
	}
	if e := m.stroke(); e != api.OK {
		return e
	}
	m.changes = append(m.changes, func(n modelNames) { delete(n, name) })
	return api.OK
}

func (m *model) Read(name string) ([]byte, api.Errno) {
	f, e := m.ahead(name)
	if e != api.OK {
		return nil, e
	}
	m.read++
	if e := m.fault(m.plan.Reads, m.read); e != api.OK {
		return nil, e
	}
	return f.data(), api.OK
}

func (m *model) List() ([]string, api.Errno) {
	if m.off {
		return nil, api.ErrOff
	}
	var l []string
	for name := range m.names() {
		l = append(l, name)
	}
	slices.Sort(l)
	return l, api.OK
}

func (m *model) Plan(p api.Plan) {
	m.plan, m.strokes, m.read = p, 0, 0
}

// counted is v counted round among n, step by step where that is near.
func counted(v, n int) int {
	v %= n
	for v < 0 {
		v += n
	}
	return v
}

func (m *model) Crash(p api.Picks) []api.FileBytes {
	whole := map[*modelFile][]byte{}
	for i, f := range m.living() {
		pick := api.Pick{}
		if i < len(p.Files) {
			pick = p.Files[i]
		}
		data, brought := f.behind(counted(pick.Done, len(f.pending)+1))
		whole[f] = slices.Clone(data)
		if sectors := (len(data) + 15) / 16; sectors > 0 {
			for _, v := range pick.Lost {
				for i := range data {
					if i/16 == counted(v, sectors) && brought[i] {
						data[i] = 0
					}
				}
			}
		}
		f.safe, f.pending = data, nil
	}
	m.safe, m.changes = m.behind(counted(p.Names, len(m.changes)+1)), nil
	m.off = false
	m.Plan(api.Plan{})
	return modelTold(m.safe, func(f *modelFile) []byte { return whole[f] })
}

func (m *model) Hand(name string, data []byte) api.Errno {
	if !modelName(name) {
		return api.ErrName
	}
	safe, changes := m.safe, m.changes
	m.safe, m.changes = m.names(), nil
	delete(m.safe, name)
	sum, files := m.held()
	if files+1 > m.files || sum+len(data) > m.room {
		m.safe, m.changes = safe, changes
		if files+1 > m.files {
			return api.ErrFiles
		}
		return api.ErrFull
	}
	f := &modelFile{safe: slices.Clone(data)}
	m.made = append(m.made, f)
	m.safe[name] = f
	return api.OK
}

func modelTold(names modelNames, data func(*modelFile) []byte) []api.FileBytes {
	var l []api.FileBytes
	for name, f := range names {
		l = append(l, api.FileBytes{Name: name, Data: data(f)})
	}
	slices.SortFunc(l, func(a, b api.FileBytes) int { return bytes.Compare([]byte(a.Name), []byte(b.Name)) })
	return l
}

func (m *model) Files() []api.FileBytes { return modelTold(m.names(), (*modelFile).data) }

func (m *model) Safe() []api.FileBytes {
	return modelTold(m.safe, func(f *modelFile) []byte { return f.safe })
}

func (m *model) Pending() (int, []int) {
	var l []int
	for _, f := range m.living() {
		l = append(l, len(f.pending))
	}
	return len(m.changes), l
}

func (m *model) Held() (int, int) { return m.held() }
func (m *model) Off() bool        { return m.off }
func (m *model) Strokes() int     { return m.strokes }
func (m *model) Reads() int       { return m.read }

// face is what a disk and its model have both.
type face interface {
	Create(string) api.Errno
	Append(string, []byte) api.Errno
	Truncate(string, int) api.Errno
	Sync(string) api.Errno
	SyncNames() api.Errno
	Rename(string, string) api.Errno
	Remove(string) api.Errno
	Read(string) ([]byte, api.Errno)
	List() ([]string, api.Errno)
	Plan(api.Plan)
	Crash(api.Picks) []api.FileBytes
	Hand(string, []byte) api.Errno
	Files() []api.FileBytes
	Safe() []api.FileBytes
	Pending() (int, []int)
	Held() (int, int)
	Off() bool
	Strokes() int
	Reads() int
}

// show is files as a text.
func show(l []api.FileBytes) string {
	s := ""
	for _, f := range l {
		s += fmt.Sprintf("%q: %v; ", f.Name, f.Data)
	}
	return s
}

// ask is the answers to all questions, List among them, as a text.
func ask(d face) string {
	names, files := d.Pending()
	held, count := d.Held()
	list, e := d.List()
	return fmt.Sprintf("files %s safe %s pending %d %v held %d %d off %v strokes %d reads %d list %q %d",
		show(d.Files()), show(d.Safe()), names, files, held, count, d.Off(), d.Strokes(), d.Reads(), list, e)
}

// walk makes one call after another, each of them drawn from r.
type walk struct {
	r     *rand.Rand
	names []string
}

func (w walk) name() string { return w.names[w.r.Intn(len(w.names))] }

func (w walk) data() []byte {
	p := make([]byte, w.r.Intn(40))
	for i := range p {
		p[i] = byte(1 + w.r.Intn(255))
	}
	return p
}

func (w walk) faults() []api.Fault {
	var l []api.Fault
	for range w.r.Intn(4) {
		l = append(l, api.Fault{At: w.r.Intn(12) - 1, Kind: w.r.Intn(6) - 1})
	}
	return l
}

func (w walk) picks() api.Picks {
	p := api.Picks{Names: w.r.Intn(20) - 10}
	for range w.r.Intn(7) {
		pick := api.Pick{Done: w.r.Intn(20) - 10}
		for range w.r.Intn(4) {
			pick.Lost = append(pick.Lost, w.r.Intn(20)-10)
		}
		p.Files = append(p.Files, pick)
	}
	return p
}

// call is a call, the same for each that it is asked of, and told with its answer.
func (w walk) call() func(face) string {
	name, to, data, size := w.name(), w.name(), w.data(), w.r.Intn(60)-2
	switch k := w.r.Intn(100); {
	case k < 14:
		return func(d face) string { return fmt.Sprint("Create ", name, d.Create(name)) }
	case k < 42:
		return func(d face) string { return fmt.Sprint("Append ", name, data, d.Append(name, data)) }
	case k < 52:
		return func(d face) string { return fmt.Sprint("Truncate ", name, size, d.Truncate(name, size)) }
	case k < 60:
		return func(d face) string { return fmt.Sprint("Sync ", name, d.Sync(name)) }
	case k < 66:
		return func(d face) string { return fmt.Sprint("SyncNames ", d.SyncNames()) }
	case k < 73:
		return func(d face) string { return fmt.Sprint("Rename ", name, " ", to, d.Rename(name, to)) }
	case k < 79:
		return func(d face) string { return fmt.Sprint("Remove ", name, d.Remove(name)) }
	case k < 86:
		return func(d face) string {
			p, e := d.Read(name)
			return fmt.Sprint("Read ", name, p, e)
		}
	case k < 90:
		p := api.Plan{Strokes: w.faults(), Reads: w.faults()}
		return func(d face) string { d.Plan(p); return fmt.Sprint("Plan ", p) }
	case k < 96:
		p := w.picks()
		return func(d face) string { return fmt.Sprint("Crash ", p, show(d.Crash(p))) }
	}
	return func(d face) string { return fmt.Sprint("Hand ", name, data, d.Hand(name, data)) }
}

// P3.3 to P3.10, P3.12: calls in any order are answered as the chapter's words reckon it, and all questions behind each of them.
func TestWalks(t *testing.T) {
	limits := [][2]int{{100, 3}, {60, 2}, {400, 6}, {0, 2}, {30, 1}, {1000, 0}, {0, 0}}
	for seed := range 250 {
		limit := limits[seed%len(limits)]
		d, e := disk.New(limit[0], limit[1])
		if e != api.OK {
			t.Fatal(e)
		}
		m := newModel(limit[0], limit[1])
		w := walk{rand.New(rand.NewSource(int64(seed))), []string{"a", "a", "b", "b", "c", "aa", "~", "", "a b"}}
		for i := range 300 {
			call := w.call()
			was, wasFiles := d.Held()
			got, want := call(d), call(m)
			if got != want {
				t.Fatalf("walk %d, call %d: %s, not %s", seed, i, got, want)
			}
			if got, want := ask(d), ask(m); got != want {
				t.Fatalf("walk %d, behind call %d, %s:\n%s, not\n%s", seed, i, call(newModel(0, 0)), got, want)
			}
			held, files := d.Held()
			if held > limit[0] || files > limit[1] {
				t.Fatalf("P3.12: walk %d, call %d: %d, %d held", seed, i, held, files)
			}
			if got[:5] == "Crash" && (held > was || files > wasFiles) {
				t.Fatalf("P3.12: walk %d, call %d: a crash has made %d, %d of %d, %d", seed, i, held, files, was, wasFiles)
			}
		}
	}
}
