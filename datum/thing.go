package datum

import (
	"strconv"

	"treadle/api"
)

// thing is what a value that is not nothing says: an integer or a text.
type thing interface {
	value() api.Value     // the value that says it, and no more
	lay(to []byte) []byte // its text behind these bytes
}

type integer int64

func (n integer) value() api.Value { return api.Value{Kind: api.KindInt, Int: int64(n)} }

func (n integer) lay(to []byte) []byte { return strconv.AppendInt(to, int64(n), 10) }

type text string

func (t text) value() api.Value { return api.Value{Kind: api.KindText, Text: string(t)} }

func (t text) lay(to []byte) []byte { return append(to, t...) }

// thingOf is what v says by its kind alone; nil, if it is nothing or of no kind.
func thingOf(v api.Value) thing {
	switch v.Kind {
	case api.KindInt:
		return integer(v.Int)
	case api.KindText:
		return text(v.Text)
	}
	return nil
}

// plain is v without what its kind does not have; nothing, if it is of no kind.
func plain(v api.Value) api.Value {
	if t := thingOf(v); t != nil {
		return t.value()
	}
	return api.Value{}
}

// checked is what v says; nil, if it is nothing or no value.
func checked(v api.Value) thing {
	if Check(v) != api.OK {
		return nil
	}
	return thingOf(v)
}
