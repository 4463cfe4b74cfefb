package val

import (
	"math"

	"mailbag/api"
	"mailbag/octet"
)

// Encode is a value as bytes.
func (v Val) Encode() (string, api.Errno) {
	if !v.Right() {
		return "", api.ErrArg
	}
	b := v.lay(nil)
	if len(b) > api.MaxVal {
		return "", api.ErrLong
	}
	return string(b), api.OK
}

// lay lays the bytes of a right value. It leaves off behind MaxVal of them: so many are too many, whatever comes behind.
func (v Val) lay(b []byte) []byte {
	if len(b) > api.MaxVal {
		return b
	}
	b = append(b, byte(v.Kind))
	switch v.Kind {
	case Bool:
		b = octet.Flag(b, v.Yes)
	case Int:
		b = layInt(b, v.Num)
	case Text:
		b = octet.Text(b, v.Text)
	case List:
		b = octet.Num(b, len(v.List))
		for _, x := range v.List {
			b = x.lay(b)
		}
	case Map:
		b = layFields(b, v.Fields)
	}
	return b
}

// layFields lays how many fields there are, and these.
func layFields(b []byte, fields []Field) []byte {
	b = octet.Num(b, len(fields))
	for _, f := range fields {
		if len(b) > api.MaxVal {
			return b
		}
		b = f.Val.lay(octet.Text(b, f.Name))
	}
	return b
}

// layInt lays a number such that those near 0 have few bytes, on either side of it.
func layInt(b []byte, n int64) []byte {
	folded := uint64(n)<<1 ^ uint64(n>>63)
	b = octet.Num(b, int(folded>>32))
	return octet.Num(b, int(folded&math.MaxUint32))
}

// Decode is the value that bytes are.
func Decode(s string) (Val, api.Errno) {
	if len(s) > api.MaxVal {
		return Val{}, api.ErrLong
	}
	d := decoder{octet.Read(s)}
	v, e := d.value(0)
	if e == api.OK {
		e = d.End()
	}
	if e != api.OK {
		return Val{}, e
	}
	return v, api.OK
}

// decoder reads values.
type decoder struct {
	*octet.Reader
}

// value reads a value that is in so many others.
func (d decoder) value(others int) (Val, api.Errno) {
	if others == api.MaxDeep {
		return Val{}, api.ErrDeep
	}
	kind := d.Raw(1)
	if kind == "" || Kind(kind[0]) > Map {
		return Val{}, api.ErrForm
	}
	v := Val{Kind: Kind(kind[0])}
	switch v.Kind {
	case Bool:
		v.Yes = d.Flag()
	case Int:
		v.Num = d.number()
	case Text:
		v.Text = d.Text(api.MaxVal)
	case List:
		return d.list(others)
	case Map:
		return d.fields(others)
	}
	return v, d.Err()
}

// list reads a list, which is in so many others. However many values it says it has, what stands there is read up to the first fault.
func (d decoder) list(others int) (Val, api.Errno) {
	v := Val{Kind: List}
	for range d.Num(math.MaxInt) {
		x, e := d.value(others + 1)
		if e != api.OK {
			return Val{}, e
		}
		v.List = append(v.List, x)
	}
	return v, d.Err()
}

// fields reads a map, which is in so many others, as list does.
func (d decoder) fields(others int) (Val, api.Errno) {
	v := Val{Kind: Map}
	for i := range d.Num(math.MaxInt) {
		name := d.Text(api.MaxVal)
		if d.Err() != api.OK || i > 0 && name <= v.Fields[i-1].Name {
			return Val{}, api.ErrForm
		}
		x, e := d.value(others + 1)
		if e != api.OK {
			return Val{}, e
		}
		v.Fields = append(v.Fields, Field{Name: name, Val: x})
	}
	return v, d.Err()
}

// number reads a number as layInt lays it.
func (d decoder) number() int64 {
	upper := uint64(d.Num(math.MaxUint32))
	folded := upper<<32 | uint64(d.Num(math.MaxUint32))
	return int64(folded>>1) ^ -int64(folded&1)
}
