"""The calls on one house, handed in as one list of numbers and answered as one list."""

from postalhouse.accounts import answer_account, settle
from postalhouse.asking import answer_item, answer_knows, answer_office, answer_said
from postalhouse.asking import answer_losses, answer_orders, answer_runs
from postalhouse.carriage import add_trip, cancel_run, post_item
from postalhouse.delivery import hand_item, pass_message_on, pay_out, pick_up
from postalhouse.events import go_on
from postalhouse.journal import answer_counts, look_back, write_down
from postalhouse.losing import check_bin, claim_loss, find_item, give_back, lose_item
from postalhouse.sorting import begin_round, pass_items
from postalhouse.state import House
from postalhouse.ways import answer_latest, answer_way

# How many numbers stand behind each call's number, from trip (0) to counts (27).
HOW_MANY = (6, 2, 9, 1, 2, 1, 2, 2, 1, 2, 1, 2, 1, 1, 1, 0, 1, 1, 2, 1, 3, 3, 1, 0, 0, 0, 1, 0)
# Up to this one calls do something, and go into the journal; those behind it only ask.
SETTLE = 15


def answers(calls):
    """Answer the calls, one after another, on a new house."""
    house = House()
    answered = []
    place = 0
    while place < len(calls):
        end = place + 1 + HOW_MANY[calls[place]]
        answer = answer_call(house, calls[place], calls[place + 1:end])
        answered.append(len(answer))
        answered.extend(answer)
        place = end
    return answered


def answer_call(house, call, given):
    """Answer one call; one that does something and isn't refused goes into the journal."""
    if call > SETTLE:
        return ask(house, call, given)
    answer = do_call(house, call, given)
    if answer[0] >= 0:
        write_down(house)
    return answer


def do_call(house, call, given):
    """Do the call of that number, from trip to settle."""
    if call == 0:
        return add_trip(house, given)
    if call == 1:
        return cancel_run(house, given)
    if call == 2:
        return post_item(house, given)
    if call == 3:
        return go_on(house, given)
    if call == 4:
        return lose_item(house, given)
    if call == 5:
        return check_bin(house, given)
    if call == 6:
        return find_item(house, given)
    if call == 7:
        return pass_items(house, given)
    if call == 8:
        return begin_round(house, given)
    if call == 9:
        return hand_item(house, given)
    if call == 10:
        return pick_up(house, given)
    if call == 11:
        return pass_message_on(house, given)
    if call == 12:
        return pay_out(house, given)
    if call == 13:
        return claim_loss(house, given)
    if call == 14:
        return give_back(house, given)
    return settle(house)


def ask(house, call, given):
    """Answer the call of that number, from item to counts."""
    if call == 16:
        return answer_item(house, given)
    if call == 17:
        return answer_office(house, given)
    if call == 18:
        return answer_said(house, given)
    if call == 19:
        return answer_knows(house, given)
    if call == 20:
        return answer_way(house, given)
    if call == 21:
        return answer_latest(house, given)
    if call == 22:
        return answer_account(house, given)
    if call == 23:
        return answer_losses(house)
    if call == 24:
        return answer_orders(house)
    if call == 25:
        return answer_runs(house)
    if call == 26:
        return look_back(house, given)
    return answer_counts(house)
