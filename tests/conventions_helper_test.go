package tests

import (
	"fmt"
	"reflect"
	"runtime"
	"testing"
	"time"

	"loop.example/g01095/impl"
)

// call is a function of the package with all its arguments; it returns all its results.
type call struct {
	name string
	run  func() []any
}

func single(result any) []any { return []any{result} }

func pair[T any](result T, ok bool) []any { return []any{result, ok} }

// checkCalls checks the conventions for calls that have arguments in common: they return, give equal results again,
// leave the arguments with their unused capacity as they are, and give out new memory.
func checkCalls(t *testing.T, calls []call, args ...any) {
	t.Helper()
	for _, c := range calls {
		what := fmt.Sprintf("%s of %.200s", c.name, fmt.Sprint(args...))
		checkCall(t, what, c.run, args)
	}
}

func checkCall(t *testing.T, what string, run func() []any, args []any) {
	t.Helper()
	defer func() {
		if r := recover(); r != nil {
			t.Errorf("%s panics: %v", what, r)
		}
	}()
	before := contents(reflect.ValueOf(args))
	results := run()
	printed := fmt.Sprint(results...)
	if overlap(memory(reflect.ValueOf(results)), memory(reflect.ValueOf(args))) {
		t.Errorf("%s: results share memory with one another or with an argument", what)
	}
	for _, s := range memory(reflect.ValueOf(results)) {
		s.Clear()
	}
	if again := fmt.Sprint(run()...); again != printed {
		t.Errorf("%s: first %s, then %s", what, printed, again)
	}
	if after := contents(reflect.ValueOf(args)); after != before {
		t.Errorf("%s changes an argument: before %s, after %s", what, before, after)
	}
}

// roomy returns a copy of a value in which all slices have unused capacity that is not zero.
func roomy[T any](value T) T { return copyWithRoom(reflect.ValueOf(&value).Elem()).Interface().(T) }

func copyWithRoom(v reflect.Value) reflect.Value {
	result := reflect.New(v.Type()).Elem()
	result.Set(v)
	switch v.Kind() {
	case reflect.Struct:
		for i := range v.NumField() {
			result.Field(i).Set(copyWithRoom(v.Field(i)))
		}
	case reflect.Slice:
		whole := reflect.MakeSlice(v.Type(), v.Len()+2, v.Len()+2)
		for i := range whole.Len() {
			if i < v.Len() {
				whole.Index(i).Set(copyWithRoom(v.Index(i)))
			} else {
				fillIn(whole.Index(i))
			}
		}
		result.Set(whole.Slice(0, v.Len()))
	}
	return result
}

// fillIn sets a value to one that is not zero.
func fillIn(v reflect.Value) {
	switch v.Kind() {
	case reflect.Int64:
		v.SetInt(77)
	case reflect.Bool:
		v.SetBool(true)
	case reflect.String:
		v.SetString("unused")
	case reflect.Struct:
		for i := range v.NumField() {
			fillIn(v.Field(i))
		}
	case reflect.Slice:
		v.Set(reflect.MakeSlice(v.Type(), 1, 1))
		fillIn(v.Index(0))
	}
}

// memory returns all slices in a value, each with its unused capacity.
func memory(v reflect.Value) []reflect.Value {
	var all []reflect.Value
	switch v.Kind() {
	case reflect.Interface:
		return memory(v.Elem())
	case reflect.Struct:
		for i := range v.NumField() {
			all = append(all, memory(v.Field(i))...)
		}
	case reflect.Slice:
		whole := v.Slice(0, v.Cap())
		if whole.Len() > 0 && whole.Type() != reflect.TypeFor[[]any]() {
			all = append(all, whole)
		}
		for i := range whole.Len() {
			all = append(all, memory(whole.Index(i))...)
		}
	}
	return all
}

// overlap reports whether one of some slices shares memory with another one of them, or with one of others.
func overlap(some, others []reflect.Value) bool {
	for i, a := range some {
		for _, b := range append(others, some[:i]...) {
			if start(a) < end(b) && start(b) < end(a) {
				return true
			}
		}
	}
	return false
}

func start(s reflect.Value) uintptr { return s.Pointer() }

func end(s reflect.Value) uintptr { return s.Pointer() + uintptr(s.Len())*s.Type().Elem().Size() }

// contents writes a value with the lengths and the unused capacities of its slices.
func contents(v reflect.Value) string {
	switch v.Kind() {
	case reflect.Interface:
		return contents(v.Elem())
	case reflect.Struct:
		text := "{"
		for i := range v.NumField() {
			text += contents(v.Field(i)) + " "
		}
		return text + "}"
	case reflect.Slice:
		text := fmt.Sprint(v.Len(), "[")
		for whole, i := v.Slice(0, v.Cap()), 0; i < whole.Len(); i++ {
			text += contents(whole.Index(i)) + " "
		}
		return text + "]"
	}
	return fmt.Sprint(v)
}

// checkNothingRuns checks that no goroutine that calls have started goes on after them.
func checkNothingRuns(t *testing.T, run func()) {
	t.Helper()
	before := runtime.NumGoroutine()
	run()
	for range 100 {
		if runtime.NumGoroutine() <= before {
			return
		}
		time.Sleep(10 * time.Millisecond)
	}
	t.Errorf("%d goroutines run after the calls, %d before", runtime.NumGoroutine(), before)
}

func TestConventionsSeeChangedArguments(t *testing.T) {
	list := roomy([]impl.Voice{{Trust: []int64{1}}, {Speaks: true}})
	for name, change := range map[string]func(){
		"an element":                func() { list[0].Trust[0]++ },
		"unused capacity":           func() { list[:3][2].Speaks = false },
		"unused capacity in a list": func() { list[0].Trust[:2][1]++ },
		"a length":                  func() { list[1].Trust = list[1].Trust[:1] },
	} {
		before := contents(reflect.ValueOf(list))
		if change(); contents(reflect.ValueOf(list)) == before {
			t.Errorf("a change of %s is not seen", name)
		}
	}
}

func TestConventionsSeeSharedMemory(t *testing.T) {
	list, numbers := roomy([]impl.Voice{{Trust: []int64{1}}, {Speaks: true}}), []int64{1, 2}
	args := memory(reflect.ValueOf([]any{list}))
	for name, results := range map[string][]any{
		"an argument":                     {list[1:]},
		"a list in an argument":           {[][]int64{{1}, list[0].Trust}, true},
		"unused capacity of an argument":  {list[0].Trust[1:1]},
		"unused capacity of another list": {[][]int64{numbers[:1], numbers[1:]}},
		"another result":                  {numbers, numbers[1:]},
	} {
		if !overlap(memory(reflect.ValueOf(results)), args) {
			t.Errorf("memory shared with %s is not seen", name)
		}
	}
	if overlap(memory(reflect.ValueOf([]any{roomy(list), numbers[:1:1], numbers[1:], int64(1), true})), args) {
		t.Error("new memory is taken for shared memory")
	}
}
