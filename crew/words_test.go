package crew_test

import (
	"strconv"
	"strings"
	"testing"

	"treadle/api"
	"treadle/asm"
	"treadle/crew"
	"treadle/zigzag"
)

var nothing = api.Value{}

func num(n int64) api.Value { return api.Value{Kind: api.KindInt, Int: n} }

func text(s string) api.Value { return api.Value{Kind: api.KindText, Text: s} }

func long(n int) string { return strings.Repeat("k", n) }

// library is definitions that the tests call: p, g and s are those of the chapter's examples.
const library = `
	def p 2: arg r0 0 / arg r1 1 / put r0 r1;
	def g 1: arg r0 0 / get r1 r0 / tell r1;
	def s 0: set r0 "a" / set r1 "c" / count r2 r0 r1 10 / tell r2;
	def d 1: arg r0 0 / del r0;
	def next 1: arg r0 0 / next r1 r0 / tell r1;
	def sum 2: arg r0 0 / arg r1 1 / sum r2 r0 r1 64 / tell r2;
	def count 2: arg r0 0 / arg r1 1 / count r2 r0 r1 64 / tell r2;
	def count1 2: arg r0 0 / arg r1 1 / count r2 r0 r1 1 / tell r2;
	def inc 1: arg r0 0 / get r1 r0 / set r2 1 / add r1 r1 r2 / put r0 r1 / tell r1;
	def move 2: arg r0 0 / arg r1 1 / get r2 r0 / put r1 r2 / del r0;
	def own 2: arg r0 0 / arg r1 1 / put r0 r1 / get r2 r0 / tell r2;
	def gives 1: arg r0 0 / put r0 r0 / get r1 r0 / set r1 "c" / get r2 r1 / set r1 1 / need r1 = r2;
	def early 1: set r1 1 / need r1 = r2 / arg r0 0 / get r1 r0`

// txnOf is a transaction in words: a definition `def NAME ARGS: CODE / CODE`, any other kind `kind 9`, or a call `NAME ARG ARG`.
func txnOf(t *testing.T, words string) api.Txn {
	t.Helper()
	if rest, is := strings.CutPrefix(words, "def "); is {
		head, code, _ := strings.Cut(rest, ":")
		p, line, e := asm.Parse("proc " + head + "\n" + strings.ReplaceAll(code, "/", "\n") + "\nend")
		if e != api.OK {
			t.Fatalf("%s: line %d: %v", words, line, e)
		}
		return api.Txn{Kind: api.TxnDefine, Proc: p}
	}
	fields := strings.Fields(words)
	if fields[0] == "kind" {
		n, _ := strconv.Atoi(fields[1])
		return api.Txn{Kind: n, Name: "g", Args: []api.Value{text("a")}, Proc: api.Proc{Name: "g"}}
	}
	txn := api.Txn{Kind: api.TxnCall, Name: fields[0]}
	for _, word := range fields[1:] {
		txn.Args = append(txn.Args, valueOf(t, word))
	}
	return txn
}

// valueOf is a value in words: none, digits, or a text in quotes.
func valueOf(t *testing.T, word string) api.Value {
	t.Helper()
	if word == "none" {
		return nothing
	}
	if s, e := strconv.Unquote(word); e == nil {
		return text(s)
	}
	n, e := strconv.ParseInt(word, 10, 64)
	if e != nil {
		t.Fatalf("%s is no value", word)
	}
	return num(n)
}

// txnsOf is transactions in words, with a semicolon between any two.
func txnsOf(t *testing.T, script string) []api.Txn {
	t.Helper()
	var txns []api.Txn
	for _, words := range strings.Split(script, ";") {
		if words = strings.TrimSpace(words); words != "" {
			txns = append(txns, txnOf(t, words))
		}
	}
	return txns
}

// world is the two stores.
type world struct {
	values *zigzag.Store[api.Value]
	procs  *zigzag.Store[api.Proc]
}

// empty is two stores without a key.
func empty() world { return world{zigzag.New[api.Value](), zigzag.New[api.Proc]()} }

// worldOf is the library's procedures and some keys, in words like `a=1 b="x"`.
func worldOf(t *testing.T, keys string) world {
	t.Helper()
	w := empty()
	for _, txn := range txnsOf(t, library) {
		w.procs.Put(txn.Proc.Name, txn.Proc)
	}
	for _, word := range strings.Fields(keys) {
		key, value, _ := strings.Cut(word, "=")
		w.values.Put(key, valueOf(t, value))
	}
	return w
}

// run is crew.Run on these stores.
func (w world) run(txns []api.Txn, workers int) ([]api.Outcome, []int) {
	return crew.Run(w.values, w.procs, txns, workers)
}

// saidValue is a value in words.
func saidValue(v api.Value) string {
	switch v.Kind {
	case api.KindNone:
		return "none"
	case api.KindInt:
		return strconv.FormatInt(v.Int, 10)
	}
	return strconv.Quote(v.Text)
}

// saidOutcome is an outcome in words: how it ended, where, if not at 0, and what it told.
func saidOutcome(o api.Outcome) string {
	names := []string{"zero", "done", "need", "range", "kind", "long", "key", "name", "args"}
	out := names[o.Status]
	if o.At != 0 {
		out += " at " + strconv.Itoa(o.At)
	}
	for _, v := range o.Told {
		out += " " + saidValue(v)
	}
	return out
}

// saidOutcomes is outcomes in words, with a semicolon between any two.
func saidOutcomes(l []api.Outcome) string {
	var out []string
	for _, o := range l {
		out = append(out, saidOutcome(o))
	}
	return strings.Join(out, "; ")
}

// saidRounds is numbers with a blank between any two.
func saidRounds(l []int) string {
	var out []string
	for _, n := range l {
		out = append(out, strconv.Itoa(n))
	}
	return strings.Join(out, " ")
}

// said is all that the keys have, in words.
func (w world) said() string {
	var out []string
	for key, v := range w.values.Range("", "") {
		out = append(out, key+"="+saidValue(v))
	}
	return strings.Join(out, " ")
}

// saidProcs is all procedures, as texts, each behind its name in the store.
func (w world) saidProcs() string {
	out := ""
	for name, p := range w.procs.Range("", "") {
		s, e := asm.Print(p)
		if e != api.OK {
			s = "refused: " + e.Error() + "\n"
		}
		out += name + ": " + s
	}
	return out
}

// saidAll is all of both stores.
func (w world) saidAll() string { return w.said() + "\n" + w.saidProcs() }
