package batch_test

import (
	"math/rand"
	"slices"
	"strings"

	"treadle/api"
	"treadle/datum"
	"treadle/proc"
)

// What the chapter says, done slowly. Numbers and texts as bytes are chapter 1's, written here anew;
// procedures and values are asked of chapters 6 and 5, as the chapter does.

// slowName tells whether a text is a procedure's name.
func slowName(s string) bool {
	const letters = "abcdefghijklmnopqrstuvwxyzABCDEFGHIJKLMNOPQRSTUVWXYZ"
	if len(s) < 1 || len(s) > 32 || strings.IndexByte(letters, s[0]) < 0 {
		return false
	}
	for _, c := range []byte(s) {
		if strings.IndexByte(letters+"0123456789_-.", c) < 0 {
			return false
		}
	}
	return true
}

// slowTxn is the error of a transaction.
func slowTxn(t api.Txn) api.Errno {
	if t.Kind != 1 && t.Kind != 2 {
		return api.ErrArg
	}
	if t.Kind == 1 {
		if t.Name != "" || len(t.Args) != 0 {
			return api.ErrForm
		}
		_, e := proc.Check(t.Proc)
		return e
	}
	if t.Proc.Name != "" || t.Proc.Args != 0 || len(t.Proc.Code) != 0 {
		return api.ErrForm
	}
	if !slowName(t.Name) {
		return api.ErrName
	}
	if len(t.Args) > 16 {
		return api.ErrLong
	}
	for _, v := range t.Args {
		if e := datum.Check(v); e != api.OK {
			return e
		}
	}
	return api.OK
}

// slowCheck is Check as the chapter says it.
func slowCheck(b api.Batch) api.Errno {
	if b.First < 1 || b.First > 281474976710655 {
		return api.ErrArg
	}
	if len(b.Txns) == 0 || len(b.Txns) > 64 {
		return api.ErrArg
	}
	if b.First > 281474976710655-len(b.Txns)+1 {
		return api.ErrNumber
	}
	for _, t := range b.Txns {
		if e := slowTxn(t); e != api.OK {
			return e
		}
	}
	return api.OK
}

// slowRow is the row of sevens of a number.
func slowRow(n int) []byte {
	var out []byte
	for ; n >= 128; n /= 128 {
		out = append(out, byte(n%128+128))
	}
	return append(out, byte(n))
}

// slowText is a text with its length.
func slowText(s string) []byte { return append(slowRow(len(s)), s...) }

// slowBytes is the bytes of a batch, whether they are too many or not.
func slowBytes(b api.Batch) []byte {
	out := slices.Concat(slowRow(b.First), slowRow(len(b.Txns)))
	for _, t := range b.Txns {
		out = append(out, byte(t.Kind))
		if t.Kind == 1 {
			p, _ := proc.Encode(t.Proc)
			out = append(out, slowText(string(p))...)
			continue
		}
		out = slices.Concat(out, slowText(t.Name), slowRow(len(t.Args)))
		for _, v := range t.Args {
			a, _ := datum.Encode(v)
			out = append(out, slowText(string(a))...)
		}
	}
	return out
}

// slowEncode is Encode as the chapter says it.
func slowEncode(b api.Batch) ([]byte, api.Errno) {
	if e := slowCheck(b); e != api.OK {
		return nil, e
	}
	out := slowBytes(b)
	if len(out) > 65536 {
		return nil, api.ErrLong
	}
	return out, api.OK
}

// row is bytes that are taken from the front till one thing cannot be.
type row struct {
	b   []byte
	err api.Errno
}

// stop keeps the first error.
func (r *row) stop(e api.Errno) {
	if r.err == api.OK {
		r.err = e
	}
}

func (r *row) number() int {
	var n uint64
	for i := 0; r.err == api.OK; i++ {
		if i == len(r.b) {
			r.stop(api.ErrShort)
			break
		}
		c := r.b[i]
		if i == 8 && c >= 128 {
			r.stop(api.ErrRange)
			break
		}
		n += uint64(c%128) << (7 * i)
		if c >= 128 {
			continue
		}
		if i > 0 && c == 0 {
			r.stop(api.ErrForm)
			break
		}
		r.b = r.b[i+1:]
		return int(n)
	}
	return 0
}

func (r *row) byte() int {
	if len(r.b) == 0 {
		r.stop(api.ErrShort)
	}
	if r.err != api.OK {
		return 0
	}
	c := r.b[0]
	r.b = r.b[1:]
	return int(c)
}

func (r *row) text(most int) string {
	n := r.number()
	if n > most {
		r.stop(api.ErrLong)
	}
	if n > len(r.b) {
		r.stop(api.ErrShort)
	}
	if r.err != api.OK {
		return ""
	}
	s := string(r.b[:n])
	r.b = r.b[n:]
	return s
}

// slowTake takes a transaction of so many bytes in all.
func slowTake(r *row, all int) api.Txn {
	t := api.Txn{Kind: r.byte()}
	if t.Kind != 1 && t.Kind != 2 {
		r.stop(api.ErrArg)
		return t
	}
	if t.Kind == 1 {
		s := r.text(all)
		if r.err == api.OK {
			t.Proc, r.err = proc.Decode([]byte(s))
		}
		return t
	}
	t.Name = r.text(32)
	n := r.number()
	if n > 16 {
		r.stop(api.ErrLong)
	}
	for i := 0; i < n && r.err == api.OK; i++ {
		s := r.text(all)
		if r.err == api.OK {
			var v api.Value
			v, r.err = datum.Decode([]byte(s))
			t.Args = append(t.Args, v)
		}
	}
	return t
}

// slowDecode is Decode as the chapter says it.
func slowDecode(data []byte) (api.Batch, api.Errno) {
	if len(data) > 65536 {
		return api.Batch{}, api.ErrLong
	}
	r := &row{b: data}
	b := api.Batch{First: r.number()}
	n := r.number()
	if n > 64 {
		r.stop(api.ErrArg)
	}
	for i := 0; i < n && r.err == api.OK; i++ {
		b.Txns = append(b.Txns, slowTake(r, len(data)))
	}
	if len(r.b) > 0 {
		r.stop(api.ErrForm)
	}
	if r.err == api.OK {
		r.err = slowCheck(b)
	}
	if r.err != api.OK {
		return api.Batch{}, r.err
	}
	return b, api.OK
}

// chance is a source of random batches, and what they are made of.
type chance struct {
	*rand.Rand
	values []badValue
	txns   []badTxn
	procs  []api.Proc
}

func chanceOf(seed int64) chance {
	return chance{rand.New(rand.NewSource(seed)), badValues(), badTxns(), procedures()}
}

// value is a random argument, seldom one that is refused.
func (r chance) value() api.Value {
	switch r.Intn(8) {
	case 0:
		return nothing
	case 1, 2, 3:
		return num(int64(r.Uint64()) >> r.Intn(64))
	case 4:
		if r.Intn(40) == 0 {
			return r.values[r.Intn(len(r.values))].v
		}
	}
	s := make([]byte, r.Intn(12))
	if r.Intn(8) == 0 {
		s = make([]byte, r.Intn(257))
	}
	r.Read(s)
	return text(string(s))
}

// txn is a random transaction, seldom one that is refused.
func (r chance) txn() api.Txn {
	if r.Intn(60) == 0 {
		return r.txns[r.Intn(len(r.txns))].t
	}
	if r.Intn(3) == 0 {
		return define(r.procs[r.Intn(len(r.procs))])
	}
	names := []string{"p", "put2", "A.b-c_9", long(32)}
	args := make([]api.Value, r.Intn(17))
	for i := range args {
		args[i] = r.value()
	}
	return call(names[r.Intn(len(names))], args...)
}

// batch is a random batch, often one that Check takes.
func (r chance) batch() api.Batch {
	b := api.Batch{First: 1 + r.Intn(300)}
	switch r.Intn(10) {
	case 0:
		b.First = api.MaxNumber - r.Intn(70)
	case 1:
		b.First = 1 + int(r.Uint64()>>16)%api.MaxNumber
	}
	n := 1 + r.Intn(5)
	if r.Intn(20) == 0 {
		n = r.Intn(67)
	}
	for range n {
		b.Txns = append(b.Txns, r.txn())
	}
	return b
}
